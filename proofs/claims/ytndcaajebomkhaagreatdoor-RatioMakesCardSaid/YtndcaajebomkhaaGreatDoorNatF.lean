/- Layer 1 (nat): Sub of any numbers. -/
import Derived.Test.YtndcaajebomkhaaGreatDoorNatE
namespace Go.Proofs.YtndcaajebomkhaaGreatDoor
open Go.RowKit

/-! Plain mathematics: one limb with a borrow. -/
theorem sub_limb {β x y b s b' : Nat} (hx : x < β) (hy : y < β) (hb : b ≤ 1) (hs : s = (x + β - y - b) % β) (hb' : b' = bor x y b) : s + y + b = x + b' * β := by
  unfold bor at hb'
  split at hb'
  · subst hb'
    rw [Nat.mod_eq_of_lt (by omega)] at hs
    omega
  · subst hb'
    have h0 : x + β - y - b = (x - y - b) + β := by omega
    rw [h0, Nat.add_mod_right, Nat.mod_eq_of_lt (by omega)] at hs
    omega
theorem sub_step {β s x y b b' n Z X Y : Nat} (hs : s + y + b = x + b' * β) (h : Z + Y = X + b * β ^ n) :
    (Z + s * β ^ n) + (Y + y * β ^ n) = (X + x * β ^ n) + b' * β ^ (n + 1) := by
  have h2 : (s + y + b) * β ^ n = (x + b' * β) * β ^ n := by rw [hs]
  rw [Nat.add_mul, Nat.add_mul, Nat.add_mul] at h2
  have h3 : b' * β ^ (n + 1) = b' * β * β ^ n := by rw [Nat.pow_succ, Nat.mul_comm (β ^ n) β, Nat.mul_assoc]
  rw [h3]
  omega
theorem sub_tail {β : Nat} (A X Y : List Nat) (k n : Nat) (hk : k ≤ n) (h : vl β A k + vl β Y k = vl β X k) (ht : ∀ i, k ≤ i → i < n → nth A i = nth X i) (hy : ∀ i, k ≤ i → i < n → nth Y i = 0) : vl β A n + vl β Y n = vl β X n := by
  induction n with
  | zero => rw [show k = 0 by omega] at h; exact h
  | succ n ih =>
    by_cases hkn : k = n + 1
    · rw [hkn] at h; exact h
    · rw [vl_succ, vl_succ, vl_succ, ht n (by omega) (by omega), hy n (by omega) (by omega)]
      have := ih (by omega) (fun i a b => ht i a (by omega)) (fun i a b => hy i a (by omega))
      omega
theorem sub_whole {β n d A X Y : Nat} (h : A + Y = X + d * β ^ n) (hA : A < β ^ n) (hYX : Y ≤ X) : A = X - Y := by
  by_cases hd : d = 0
  · subst hd; omega
  · have : 1 * β ^ n ≤ d * β ^ n := Nat.mul_le_mul_right _ (by omega)
    omega
theorem cmpN_neg {x y : Nat} (h : x < y) : (cmpN x y < 0) := by rw [cmpN_lt h]; omega
theorem cmpN_nonneg {x y : Nat} (h : y ≤ x) : ¬ (cmpN x y < 0) := by
  by_cases h1 : y < x
  · rw [cmpN_gt h1]; omega
  · rw [cmpN_eq (by omega)]; omega

set_option maxHeartbeats 400000 in
theorem natSub_below {B1 B2 : Nat} (p1 p2 : Option Addr) (l1 l2 c1 c2 : Nat) (xs ys : List Nat) (w : World) (h1 : l1 ≤ c1) (h2 : l2 ≤ c2) (k1 : l1 ≤ 1000000) (k2 : l2 ≤ 1000000)
    (r1 : Rd .u64 W64 B1 w p1 l1 xs) (r2 : Rd .u64 W64 B2 w p2 l2 ys) (hlt : val W64 xs < val W64 ys) :
    Calls Tryz.prog 58 #[.slice p1 l1 c1, .slice p2 l2 c2] w (Fails w 8) := by
  have C := natCmp_any p1 p2 l1 l2 c1 c2 xs ys w h1 h2 k1 k2 r1 r2
  rw [cmpN_lt hlt] at C
  have HC := Lib.hid C
  clear C hlt
  go_enter Tryz.func58, Tryz.ntmps58
  go_wp2_with fail
  refine (HC.out).mono ?_
  rintro e w' ⟨rfl, n, rfl⟩
  go_wp2
  go_ret2
  exact ⟨rfl, below_drewN (Below.refl _ _) _⟩

set_option maxHeartbeats 2000000 in
theorem natSub_fresh {B1 B2 : Nat} (p1 p2 : Option Addr) (l1 l2 c1 c2 : Nat) (xs ys : List Nat) (w : World) (h1 : l1 ≤ c1) (h2 : l2 ≤ c2) (k1 : l1 ≤ 1000000) (k2 : l2 ≤ 1000000)
    (r1 : Rd .u64 W64 B1 w p1 l1 xs) (r2 : Rd .u64 W64 B2 w p2 l2 ys) (hB2 : B2 ≤ w.heap.size) (hge : val W64 ys ≤ val W64 xs) :
    Calls Tryz.prog 58 #[.slice p1 l1 c1, .slice p2 l2 c2] w (Gives2F .u64 W64 w (val W64 xs - val W64 ys)) := by
  have C := natCmp_any p1 p2 l1 l2 c1 c2 xs ys w h1 h2 k1 k2 r1 r2
  have hnn := cmpN_nonneg hge
  obtain ⟨cv, hcv⟩ : ∃ cv, cv = cmpN (val W64 xs) (val W64 ys) := ⟨_, rfl⟩
  rw [← hcv] at C hnn
  have HC := Lib.hid C
  obtain ⟨x, hx⟩ : ∃ x, x = val W64 xs := ⟨_, rfl⟩
  obtain ⟨y, hy⟩ : ∃ y, y = val W64 ys := ⟨_, rfl⟩
  rw [← hx, ← hy]
  rw [← hx, ← hy] at hge
  have HX := Lib.hid hx
  have HY := Lib.hid hy
  have hnn' : 0 ≤ cv := by omega
  clear C hcv hx hy hnn
  go_enter Tryz.func58, Tryz.ntmps58
  go_wp2_with fail
  refine (HC.out).mono ?_
  rintro e w' ⟨rfl, dn, rfl⟩
  have hb0 : Below w.heap.size w (w.drewN dn) := below_drewN (Below.refl _ _) _
  obtain ⟨W, hW⟩ : ∃ W, W = w.drewN dn := ⟨_, rfl⟩
  have hsz : W.heap.size = w.heap.size := by rw [hW]; rfl
  have R1 : Rd .u64 W64 B1 W p1 l1 xs := by rw [hW]; exact r1.below (below_drewN (Below.refl _ _) _)
  have R2 : Rd .u64 W64 B2 W p2 l2 ys := by rw [hW]; exact r2.below (below_drewN (Below.refl _ _) _)
  rw [← hW] at hb0 ⊢
  rw [← hsz] at hb0 hB2
  have HS := Lib.hid hsz
  clear hW r1 r2 HC hsz
  go_wp2_with fail
  refine (plain_own p1 l1 c1 xs W h1 k1 R1).mono ?_
  rintro e w1 ⟨q1, n1, d1, rfl, hown, hb1⟩
  rw [← HX.out] at hown
  have R2' := (R2.mono hB2).below hb1
  go_wp2_with fail
  refine (trim_val p2 l2 c2 ys w1 h2 k2 R2').mono ?_
  rintro e w' ⟨q2, n2, rfl, hn2, hq2, hR2, rfl⟩
  rw [← HY.out] at hR2
  have hL1 : Hid ((digs W64 x).length = n1) := Lib.hid (by have := hown.1; rw [ints_length] at this; omega)
  have hL2 : Hid ((digs W64 y).length = n2) := Lib.hid hR2.count
  have hn12 : n2 ≤ n1 := by
    have a := (digs_length_le two_le_W64 x n1).1 (by rw [hL1.out]; exact Nat.le_refl _)
    have b := (digs_length_le two_le_W64 y n1).2 (by omega)
    rw [hL2.out] at b; exact b
  have hn1 : n1 ≤ 1000000 := by
    have a := (digs_length_le two_le_W64 x l1).2 (by rw [HX.out, ← R1.vl]; exact vl_lt _ _ R1.word)
    rw [hL1.out] at a; omega
  have hbb : Below w.heap.size w w1 := by rw [HS.out] at hb0 hb1; exact hb0.trans hb1
  by_cases hz : n1 = 0
  · obtain rfl : n2 = 0 := by omega
    subst hz
    have hx0 : x = 0 := (digs_length_pos two_le_W64 x).1 hL1.out
    have hrd : Rd .u64 W64 w1.heap.size w1 q1 0 (digs W64 x) := owns_rd hown (Nat.le_refl _) (fun i _ => digs_word two_le_W64 _ _)
    have hnew : ∀ a, q1 = some a → W.heap.size ≤ a.block := fun a ha => by
      obtain ⟨p', cap', e1, _, _, _, e2⟩ := owns_any hown
      simp only [Value.slice.injEq, true_and] at e1
      obtain ⟨rfl, rfl⟩ := e1
      obtain ⟨g', rfl, h3, _⟩ := e2 a ha
      exact h3
    clear hown
    go_wp2_with fail
    refine wp_loop_rounds 1 ?_
    rw [rounds_succ]
    go_wp2_with fail
    refine wp_loop_rounds 1 ?_
    rw [rounds_succ]
    go_wp2_with fail
    refine (trim_at q1 0 d1 _ w1 (Nat.zero_le _) (by omega) hrd).mono ?_
    rintro e w' ⟨q, n, rfl, hn, hq, hqp, hR, rfl⟩
    rw [val_digs two_le_W64] at hR
    go_wp2
    go_ret2
    exact ⟨q, n, n, rfl, Nat.le_refl _, hq, by rw [hx0, Nat.zero_sub, ← hx0]; exact hR, hbb, fun a ha => by
      rcases hqp with h | h
      · rw [h] at ha; cases ha
      · rw [← HS.out]; exact hnew a (by rw [← h]; exact ha)⟩
  · obtain ⟨g, cap, hq, hg, hcap, _⟩ := owns_shape hown (by omega)
    simp only [Value.slice.injEq, true_and] at hq
    obtain ⟨rfl, rfl⟩ := hq
    obtain ⟨f, hrow, hf⟩ := owns_row hown
    have hF : Hid (∀ i, i < n1 → f i = .int .u64 ((nth (digs W64 x) i : Nat) : Int)) := Lib.hid (fun i hi => by
      have := hf i hi
      rw [ints_at _ _ _ (by rw [hL1.out]; exact hi)] at this
      simpa using this)
    have hgw := hrow.lt
    clear hown hf hz
    go_wp2_with fail
    go_loopw [8, 23] (fun c i wr => ∃ (k d : Nat) (zs : List Nat) (f' : Nat → Value), k ≤ n2 ∧ i = .int .i64 k ∧ c = .int .u64 d ∧ d ≤ 1 ∧ Hid (zs.length = k) ∧ Hid (∀ i, i < k → nth zs i < W64) ∧ Row wr g 53 d1 f' ∧ Part .u64 f f' 0 zs ∧
      Hid (vl W64 zs k + vl W64 (digs W64 y) k = vl W64 (digs W64 x) k + d * W64 ^ k) ∧ w1.grownBy wr (some g)) (fun _ i _ => n2 - (intOf i).toNat)
    case atStart => exact ⟨0, 0, [], f, Nat.zero_le _, rfl, rfl, by omega, Lib.hid rfl, Lib.hid (fun i hi => by omega), hrow, Part.none _ _ _, Lib.hid (by simp [vl]), World.grownBy.refl _ _⟩
    case round =>
      obtain ⟨k, d, zs, f', hk, rfl, rfl, hd, hzl, hzw, hr, hp, hv, hgr⟩ := hrel
      by_cases hlt : k < n2
      · obtain ⟨b, o, rfl, hb, hcy⟩ := (hR2.grown hgr (by omega) (by omega)).cell k hlt
        have hcx := hr.cell k (by omega)
        rw [hp.old k (by right; rw [hzl.out]; omega), hF.out k (by omega)] at hcx
        have hfr := hr.free k
        have hx := digs_word two_le_W64 x k
        have hy := digs_word two_le_W64 y k
        obtain ⟨x', hex⟩ : ∃ x', x' = nth (digs W64 x) k := ⟨_, rfl⟩
        obtain ⟨y', hey⟩ : ∃ y', y' = nth (digs W64 y) k := ⟨_, rfl⟩
        rw [← hex] at hcx hx
        rw [← hey] at hcy hy
        obtain ⟨s, hs⟩ : ∃ s, s = (x' + W64 - y' - d) % W64 := ⟨_, rfl⟩
        obtain ⟨d', hd'⟩ : ∃ d', d' = bor x' y' d := ⟨_, rfl⟩
        have hA := sub64 x' y' d hd
        rw [← hs, ← hd'] at hA
        have h1' : d' ≤ 1 := by rw [hd']; exact bor_le _ _ _
        have H1 : Hid (nth (zs ++ [s]) k = s) := Lib.hid (nth_snoc _ _ _ hzl.out.symm)
        have H2 : Hid (vl W64 (zs ++ [s]) (k + 1) + vl W64 (digs W64 y) (k + 1) = vl W64 (digs W64 x) (k + 1) + d' * W64 ^ (k + 1)) := Lib.hid (by
          rw [vl_succ, vl_succ, vl_succ, H1.out, ← hex, ← hey, vl_congr (xs := zs ++ [s]) (ys := zs) (fun i hi => nth_append_lt _ _ _ (by rw [hzl.out]; exact hi))]
          exact sub_step (sub_limb hx hy hd hs hd') hv.out)
        have H3 : Hid (∀ i, i < k + 1 → nth (zs ++ [s]) i < W64) := Lib.hid (fun i hi => by
          by_cases hik : i = k
          · rw [hik, H1.out, hs]; exact Nat.mod_lt _ W64_pos
          · rw [nth_append_lt _ _ _ (by rw [hzl.out]; omega)]; exact hzw.out i (by omega))
        have H4 := hp.snoc s k hzl.out
        have H5 : Hid ((zs ++ [s]).length = k + 1) := Lib.hid (by simp [hzl.out])
        have HA := Lib.hid hA
        rw [Nat.zero_add] at H4
        clear hA hs hd' hex hey hv hzw hzl H1 hx hy
        have H6 := hr.set k (.int .u64 (s : Int))
        go_wp2_with (simp only [HA.out])
        go_roundw
        case rel => exact ⟨k + 1, d', zs ++ [s], _, by omega, by go_num, rfl, h1', H5, H3, H6, H4, H2, grown_trans hgr (grown_set _ _ _ _)⟩
        case measure => simp [intOf]; omega
      · obtain rfl : k = n2 := by omega
        go_wp2_with fail
        go_loopw [8, 11] (fun c i wr => ∃ (j d : Nat) (zs : List Nat) (f' : Nat → Value), k ≤ j ∧ j ≤ n1 ∧ i = .int .i64 j ∧ c = .int .u64 d ∧ d ≤ 1 ∧ Hid (zs.length = j) ∧ Hid (∀ i, i < j → nth zs i < W64) ∧ Row wr g 53 d1 f' ∧ Part .u64 f f' 0 zs ∧
          Hid (vl W64 zs j + vl W64 (digs W64 y) j = vl W64 (digs W64 x) j + d * W64 ^ j) ∧ w1.grownBy wr (some g)) (fun _ i _ => n1 - (intOf i).toNat)
        case atStart => exact ⟨k, d, zs, f', Nat.le_refl _, hn12, rfl, rfl, hd, hzl, hzw, hr, hp, hv, hgr⟩
        case round =>
          clear hzl hzw hr hp hv hgr hd
          obtain ⟨j, d, zs, f', hkj, hj, rfl, rfl, hd, hzl, hzw, hr, hp, hv, hgr⟩ := hrel
          have hd2 : d = 0 ∨ d = 1 := by omega
          rcases hd2 with rfl | rfl
          · have H1 : Hid ((zs ++ (digs W64 x).drop j).length = n1) := Lib.hid (by rw [List.length_append, List.length_drop, hzl.out, hL1.out]; omega)
            have H2 : ∀ i, j ≤ i → nth (zs ++ (digs W64 x).drop j) i = nth (digs W64 x) i := fun i hi => by
              rw [nth_append_ge _ _ _ (by rw [hzl.out]; exact hi), nth_drop, hzl.out]; congr 1; omega
            have H3 : ∀ i, i < j → nth (zs ++ (digs W64 x).drop j) i = nth zs i := fun i hi => nth_append_lt _ _ _ (by rw [hzl.out]; exact hi)
            have H4 : ∀ i, i < n1 → nth (zs ++ (digs W64 x).drop j) i < W64 := (fun i hi => by
              by_cases hik : i < j
              · rw [H3 i hik]; exact hzw.out i hik
              · rw [H2 i (by omega)]; exact digs_word two_le_W64 _ _)
            have H6 : vl W64 (zs ++ (digs W64 x).drop j) n1 + vl W64 (digs W64 y) n1 = vl W64 (digs W64 x) n1 := by
              have hv' := hv.out
              rw [Nat.zero_mul, Nat.add_zero] at hv'
              exact sub_tail _ _ _ j n1 hj (by rw [vl_congr (fun i hi => H3 i hi)]; exact hv') (fun i a _ => H2 i a) (fun i a _ => nth_past _ _ (by rw [hL2.out]; omega))
            have H7 : Hid (val W64 (zs ++ (digs W64 x).drop j) = x - y) := Lib.hid (by
              have ex : vl W64 (digs W64 x) n1 = x := by rw [vl_past _ _ (by rw [hL1.out]; exact Nat.le_refl _), val_digs two_le_W64]
              have ey : vl W64 (digs W64 y) n1 = y := by rw [vl_past _ _ (by rw [hL2.out]; exact hn12), val_digs two_le_W64]
              unfold val
              rw [H1.out]
              rw [ex, ey] at H6
              omega)
            have hrd : Rd .u64 W64 _ _ (some ⟨g, 0, none⟩) n1 (zs ++ (digs W64 x).drop j) := hr.rd 0 n1 _ hr.lt (by omega) H1.out H4 (fun i hi => by
              rw [Nat.zero_add]
              by_cases hik : i < j
              · rw [H3 i hik]; have := hp.new i (by rw [hzl.out]; exact hik); rwa [Nat.zero_add] at this
              · rw [H2 i (by omega), hp.old _ (by right; rw [hzl.out]; omega)]; exact hF.out i hi)
            have hbel := hbb.grown hgr hbb.size (fun k hk => by simp at hk; have := HS.out; omega)
            clear H2 H3 hv hzw hF hp H4 H6
            go_wp2_with fail
            refine (trim_at _ n1 d1 _ _ (by omega) (by omega) hrd).mono ?_
            rintro e w' ⟨q, n, rfl, hn, hq, hqp, hR, rfl⟩
            rw [H7.out] at hR
            go_wp2
            go_ret2
            exact ⟨q, n, n, rfl, Nat.le_refl _, hq, hR, hbel, fun a ha => by
              rcases hqp with h | h
              · rw [h] at ha; cases ha
              · rw [h] at ha; cases ha; rw [← HS.out]; exact hg⟩
          · by_cases hlt : j < n1
            · have hcx := hr.cell j (by omega)
              rw [hp.old j (by right; rw [hzl.out]; omega), hF.out j (by omega)] at hcx
              have hfr := hr.free j
              have hx := digs_word two_le_W64 x j
              obtain ⟨x', hex⟩ : ∃ x', x' = nth (digs W64 x) j := ⟨_, rfl⟩
              rw [← hex] at hcx hx
              obtain ⟨s, hs⟩ : ∃ s, s = (x' + W64 - 0 - 1) % W64 := ⟨_, rfl⟩
              obtain ⟨d', hd'⟩ : ∃ d', d' = bor x' 0 1 := ⟨_, rfl⟩
              have hA : (callFunc 88 #[.int .u64 (x' : Int), .int .u64 0, .int .u64 1]).run Tryz.prog = _ := funext (fun w => sub64 x' 0 1 (by omega) w)
              rw [← hs, ← hd'] at hA
              have h1' : d' ≤ 1 := by rw [hd']; exact bor_le _ _ _
              have H1 : Hid (nth (zs ++ [s]) j = s) := Lib.hid (nth_snoc _ _ _ hzl.out.symm)
              have H2 : Hid (vl W64 (zs ++ [s]) (j + 1) + vl W64 (digs W64 y) (j + 1) = vl W64 (digs W64 x) (j + 1) + d' * W64 ^ (j + 1)) := Lib.hid (by
                rw [vl_succ, vl_succ, vl_succ, H1.out, ← hex, nth_past (digs W64 y) j (by rw [hL2.out]; omega), vl_congr (xs := zs ++ [s]) (ys := zs) (fun i hi => nth_append_lt _ _ _ (by rw [hzl.out]; exact hi))]
                exact sub_step (sub_limb hx W64_pos (by omega) hs hd') hv.out)
              have H3 : Hid (∀ i, i < j + 1 → nth (zs ++ [s]) i < W64) := Lib.hid (fun i hi => by
                by_cases hik : i = j
                · rw [hik, H1.out, hs]; exact Nat.mod_lt _ W64_pos
                · rw [nth_append_lt _ _ _ (by rw [hzl.out]; omega)]; exact hzw.out i (by omega))
              have H4 := hp.snoc s j hzl.out
              have H5 : Hid ((zs ++ [s]).length = j + 1) := Lib.hid (by simp [hzl.out])
              have HA := Lib.hid hA
              rw [Nat.zero_add] at H4
              clear hA hs hd' hex hv hzw hzl H1 hx
              have H6 := hr.set j (.int .u64 (s : Int))
              go_wp2_with (simp only [HA.out])
              go_roundw
              case rel => exact ⟨j + 1, d', zs ++ [s], _, by omega, by omega, by go_num, rfl, h1', H5, H3, H6, H4, H2, grown_trans hgr (grown_set _ _ _ _)⟩
              case measure => simp [intOf]; omega
            · exfalso
              obtain rfl : j = n1 := by omega
              have ex : vl W64 (digs W64 x) j = x := by rw [vl_past _ _ (by rw [hL1.out]; exact Nat.le_refl _), val_digs two_le_W64]
              have ey : vl W64 (digs W64 y) j = y := by rw [vl_past _ _ (by rw [hL2.out]; exact hn12), val_digs two_le_W64]
              have hv' := hv.out
              rw [ex, ey] at hv'
              have := vl_lt zs j hzw.out
              omega
theorem natSub_any {B1 B2 : Nat} (p1 p2 : Option Addr) (l1 l2 c1 c2 : Nat) (xs ys : List Nat) (w : World) (h1 : l1 ≤ c1) (h2 : l2 ≤ c2) (k1 : l1 ≤ 1000000) (k2 : l2 ≤ 1000000)
    (r1 : Rd .u64 W64 B1 w p1 l1 xs) (r2 : Rd .u64 W64 B2 w p2 l2 ys) (hB2 : B2 ≤ w.heap.size) (hge : val W64 ys ≤ val W64 xs) :
    Calls Tryz.prog 58 #[.slice p1 l1 c1, .slice p2 l2 c2] w (Gives2 .u64 W64 w (val W64 xs - val W64 ys)) :=
  (natSub_fresh p1 p2 l1 l2 c1 c2 xs ys w h1 h2 k1 k2 r1 r2 hB2 hge).mono fun _ _ ⟨q, m, c, a1, a2, a3, a4, a5, _⟩ => ⟨q, m, c, a1, a2, a3, a4, a5⟩
end Go.Proofs.YtndcaajebomkhaaGreatDoor
