/- The document's own answers for layer 1: Add, Sub, Cmp and Len of any digits. -/
import Derived.Test.YtknkakkdhihngaaRefC
namespace Go.Proofs.Ytknkakkdhihngaa
open Go.RowKit

theorem add_dig {x y d s z d' : Nat} (hs : s = x + y + d) (hz : z = s % 65536) (hd' : d' = s / 65536) : z = (x + y + d) % 65536 ∧ d' = (x + y + d) / 65536 := by
  rw [hz, hd', hs]; exact ⟨rfl, rfl⟩

set_option maxHeartbeats 2000000 in
theorem refAdd_any {B1 B2 : Nat} (p1 p2 : Option Addr) (l1 l2 c1 c2 : Nat) (xs ys : List Nat) (w : World) (k1 : l1 ≤ 900000) (k2 : l2 ≤ 900000)
    (r1 : Rd .u32 65536 B1 w p1 l1 xs) (r2 : Rd .u32 65536 B2 w p2 l2 ys) (hB1 : B1 ≤ w.heap.size) (hB2 : B2 ≤ w.heap.size) :
    Calls Try.prog 46 #[.slice p1 l1 c1, .slice p2 l2 c2] w (Gives .u32 65536 w (val 65536 xs + val 65536 ys)) := by
  replace r1 := r1.mono hB1
  replace r2 := r2.mono hB2
  clear hB1 hB2
  obtain ⟨M, hM⟩ : ∃ M, M = max l1 l2 := ⟨_, rfl⟩
  have hM1 : l1 ≤ M := by omega
  have hM2 : l2 ≤ M := by omega
  have hM3 : M ≤ 900000 := by omega
  have HM := Lib.hid hM
  clear hM
  go_enter Try.func46, Try.ntmps46
  go_wp2_with fail
  go_loopw [5, 6, 7] (fun v c i wr => ∃ (k d cp : Nat) (q : Option Addr) (ds : List Nat), k ≤ M + 1 ∧ i = .int .i64 k ∧ c = .int .u32 d ∧ d ≤ 1 ∧ Hid (M < k → d = 0) ∧ v = .slice q k cp ∧ wr.ownsRow w.heap.size 65 1 (.slice q k cp) k (ints .u32 ds) ∧ Below w.heap.size w wr ∧
      Hid (∀ i, i < k → nth ds i < 65536) ∧ Hid (vl 65536 ds k + d * 65536 ^ k = vl 65536 xs k + vl 65536 ys k)) (fun _ _ i _ => M + 1 - (intOf i).toNat)
  case atStart => exact ⟨0, 0, 0, none, [], Nat.zero_le _, rfl, rfl, by omega, Lib.hid (fun _ => rfl), rfl, World.ownsRow_nil _ _ _ _, Below.refl _ _, Lib.hid (fun i hi => by omega), Lib.hid (by simp [vl])⟩
  case round =>
    obtain ⟨k, d, cp, q, ds, hk, rfl, rfl, hd, hdk, rfl, hown, hb, hw, hv⟩ := hrel
    by_cases hgo : k < l1 ∨ (l1 ≤ k ∧ k < l2) ∨ (l1 ≤ k ∧ l2 ≤ k ∧ 0 < d)
    · have hkM : k ≤ M := by
        by_cases h : M < k
        · have := hdk.out h; omega
        · omega
      have R1 := r1.below hb
      have R2 := r2.below hb
      obtain ⟨x, hx⟩ : ∃ x, x = nth xs k := ⟨_, rfl⟩
      obtain ⟨y, hy⟩ : ∃ y, y = nth ys k := ⟨_, rfl⟩
      have hx1 : x < 65536 := by rw [hx]; exact r1.words (by omega) k
      have hy1 : y < 65536 := by rw [hy]; exact r2.words (by omega) k
      have hD1 : ∀ W, Rd .u32 65536 w.heap.size W p1 l1 xs → Calls Try.prog 55 #[.slice p1 l1 c1, .int .i64 (k : Int)] W _ := fun W h => refDigit_any p1 l1 c1 k xs W (by omega) (by omega) h
      have hD2 : ∀ W, Rd .u32 65536 w.heap.size W p2 l2 ys → Calls Try.prog 55 #[.slice p2 l2 c2, .int .i64 (k : Int)] W _ := fun W h => refDigit_any p2 l2 c2 k ys W (by omega) (by omega) h
      rw [← hx] at hD1
      rw [← hy] at hD2
      have HD1 := Lib.hid hD1
      have HD2 := Lib.hid hD2
      obtain ⟨z, hz⟩ : ∃ z, z = (x + y + d) % 65536 := ⟨_, rfl⟩
      obtain ⟨d', hd'⟩ : ∃ d', d' = (x + y + d) / 65536 := ⟨_, rfl⟩
      have e1 : ((x : Int) + y + d) % 65536 = (z : Int) := by omega
      have e2 : ((x : Int) + y + d) / 65536 = (d' : Int) := by omega
      have hz1 : z < 65536 := by omega
      have hd1 : d' ≤ 1 := by omega
      have hcount : Hid (ds.length = k) := Lib.hid (by have := hown.1; rw [ints_length] at this; omega)
      have H1 : Hid (∀ i, i < k + 1 → nth (ds ++ [z]) i < 65536) := Lib.hid (fun i hi => by
        by_cases h : i < k
        · rw [nth_append_lt _ _ _ (by rw [hcount.out]; omega)]; exact hw.out i h
        · rw [nth_snoc _ _ _ (by rw [hcount.out]; omega)]; exact hz1)
      have H2 : Hid (vl 65536 (ds ++ [z]) (k + 1) + d' * 65536 ^ (k + 1) = vl 65536 xs (k + 1) + vl 65536 ys (k + 1)) := Lib.hid (by
        rw [vl_succ, vl_succ, vl_succ, nth_snoc _ _ _ hcount.out.symm, ← hx, ← hy, vl_congr (xs := ds ++ [z]) (ys := ds) (fun i hi => nth_append_lt _ _ _ (by rw [hcount.out]; omega)), hd']
        exact limb_step (by omega) hz hv.out)
      have H3 : Hid (M < k + 1 → d' = 0) := Lib.hid (fun h => by
        have x0 : x = 0 := by rw [hx]; exact nth_past _ _ (by rw [r1.count]; omega)
        have y0 : y = 0 := by rw [hy]; exact nth_past _ _ (by rw [r2.count]; omega)
        rw [hd', x0, y0]; omega)
      have hbs := hb.size
      clear hx hy hD1 hD2 hz hd' hw hv hdk hcount
      rcases hgo with hgo | ⟨hgo, hgo2⟩ | ⟨hgo, hgo2, hgo3⟩
      all_goals
        go_wp2_with fail
        refine (HD1.out _ R1).mono ?_
        rintro e w' ⟨rfl, rfl⟩
        go_wp2_with fail
        refine (HD2.out _ R2).mono ?_
        rintro e w' ⟨rfl, rfl⟩
        go_wp2_with (at_builtin; refine wpl_append_one Try.numTy32 rfl _ _ rfl w.heap.size k _ ds rfl (hown.alloc _) z ⟨_, 0, none⟩ rfl (by simp [go_sem]) (by omega) (by omega) (by simp; omega) ?_)
        intro q' c' w' hown' hgrow
        have hb' : Below w.heap.size w w' := (hb.alloc hbs _).grown hgrow (by simp; omega) (fun k hk => (hown.lt k hk).1)
        clear hown hb R1 R2 hgrow
        go_wp2
        go_roundw
        case rel => exact ⟨k + 1, d', c', q', ds ++ [z], by omega, by go_num, congrArg (Value.int .u32) e2, hd1, H3, rfl, hown', hb', H1, H2⟩
        case measure => simp [intOf]; omega
    · have a1 : l1 ≤ k := by omega
      have a2 : l2 ≤ k := by omega
      obtain rfl : d = 0 := by omega
      have hcount : ds.length = k := by have := hown.1; rw [ints_length] at this; omega
      have hrd := owns_rd (β := 65536) hown (Nat.le_refl _) (fun i hi => hw.out i (by omega))
      have hval : Hid (val 65536 ds = val 65536 xs + val 65536 ys) := Lib.hid (by
        have := hv.out
        rw [Nat.zero_mul, Nat.add_zero, vl_past xs k (by rw [r1.count]; exact a1), vl_past ys k (by rw [r2.count]; exact a2)] at this
        rw [← hrd.vl, this])
      have hnil := Lib.hid (owns_nil hown)
      have hroom := owns_room hown
      clear hgo hown hw hv hdk hcount
      go_wp2_with fail
      refine (refTrim_val q k cp ds _ hroom (by omega) hrd).mono ?_
      rintro e w' ⟨n, rfl, hn, hR, rfl⟩
      rw [hval.out] at hR
      go_wp2
      go_ret
      exact ⟨q, n, cp, rfl, by omega, hnil.out, hR, hb⟩

theorem sub_dig {x y c z c' : Nat} (hx : x < 65536) (hy : y < 65536) (hc : c ≤ 1) (hz : z = (65536 + x - y - c) % 65536) (hc' : c' = 1 - (65536 + x - y - c) / 65536) : z + y + c = x + c' * 65536 := by omega

set_option maxHeartbeats 2000000 in
theorem refSub_any {B1 B2 : Nat} (p1 p2 : Option Addr) (l1 l2 c1 c2 : Nat) (xs ys : List Nat) (w : World) (k1 : l1 ≤ 900000) (k2 : l2 ≤ 900000)
    (r1 : Rd .u32 65536 B1 w p1 l1 xs) (r2 : Rd .u32 65536 B2 w p2 l2 ys) (hB1 : B1 ≤ w.heap.size) (hB2 : B2 ≤ w.heap.size) (hle : val 65536 ys ≤ val 65536 xs) :
    Calls Try.prog 48 #[.slice p1 l1 c1, .slice p2 l2 c2] w (Gives .u32 65536 w (val 65536 xs - val 65536 ys)) := by
  replace r1 := r1.mono hB1
  replace r2 := r2.mono hB2
  have HLE := Lib.hid hle
  clear hB1 hB2 hle
  go_enter Try.func48, Try.ntmps48
  go_wp2_with fail
  go_loopw [5, 6, 7] (fun v c i wr => ∃ (k d cp : Nat) (q : Option Addr) (ds : List Nat), k ≤ l1 ∧ i = .int .i64 k ∧ c = .int .u32 d ∧ d ≤ 1 ∧ v = .slice q k cp ∧ wr.ownsRow w.heap.size 65 1 (.slice q k cp) k (ints .u32 ds) ∧ Below w.heap.size w wr ∧
      Hid (∀ i, i < k → nth ds i < 65536) ∧ Hid (vl 65536 ds k + vl 65536 ys k = vl 65536 xs k + d * 65536 ^ k)) (fun _ _ i _ => l1 - (intOf i).toNat)
  case atStart => exact ⟨0, 0, 0, none, [], Nat.zero_le _, rfl, rfl, by omega, rfl, World.ownsRow_nil _ _ _ _, Below.refl _ _, Lib.hid (fun i hi => by omega), Lib.hid (by simp [vl])⟩
  case round =>
    obtain ⟨k, d, cp, q, ds, hk, rfl, rfl, hd, rfl, hown, hb, hw, hv⟩ := hrel
    by_cases hlt : k < l1
    · have R2 := r2.below hb
      obtain ⟨b, off, rfl, _, hcx⟩ := (r1.below hb).cell k hlt
      obtain ⟨x, hx⟩ : ∃ x, x = nth xs k := ⟨_, rfl⟩
      obtain ⟨y, hy⟩ : ∃ y, y = nth ys k := ⟨_, rfl⟩
      rw [← hx] at hcx
      have hx1 : x < 65536 := by rw [hx]; exact r1.words (by omega) k
      have hy1 : y < 65536 := by rw [hy]; exact r2.words (by omega) k
      have hD2 : ∀ W, Rd .u32 65536 w.heap.size W p2 l2 ys → Calls Try.prog 55 #[.slice p2 l2 c2, .int .i64 (k : Int)] W _ := fun W h => refDigit_any p2 l2 c2 k ys W (by omega) (by omega) h
      rw [← hy] at hD2
      have HD2 := Lib.hid hD2
      obtain ⟨z, hz⟩ : ∃ z, z = (65536 + x - y - d) % 65536 := ⟨_, rfl⟩
      obtain ⟨d', hd'⟩ : ∃ d', d' = 1 - (65536 + x - y - d) / 65536 := ⟨_, rfl⟩
      have e1 : ((65536 : Int) + x - y - d) % 65536 = (z : Int) := by omega
      have e2 : 1 - ((65536 : Int) + x - y - d) / 65536 = (d' : Int) := by omega
      have hz1 : z < 65536 := by omega
      have hd1 : d' ≤ 1 := by omega
      have hcount : Hid (ds.length = k) := Lib.hid (by have := hown.1; rw [ints_length] at this; omega)
      have H1 : Hid (∀ i, i < k + 1 → nth (ds ++ [z]) i < 65536) := Lib.hid (fun i hi => by
        by_cases h : i < k
        · rw [nth_append_lt _ _ _ (by rw [hcount.out]; omega)]; exact hw.out i h
        · rw [nth_snoc _ _ _ (by rw [hcount.out]; omega)]; exact hz1)
      have H2 : Hid (vl 65536 (ds ++ [z]) (k + 1) + vl 65536 ys (k + 1) = vl 65536 xs (k + 1) + d' * 65536 ^ (k + 1)) := Lib.hid (by
        rw [vl_succ, vl_succ, vl_succ, nth_snoc _ _ _ hcount.out.symm, ← hx, ← hy, vl_congr (xs := ds ++ [z]) (ys := ds) (fun i hi => nth_append_lt _ _ _ (by rw [hcount.out]; omega))]
        exact sub_step (sub_dig hx1 hy1 hd hz hd') hv.out)
      have hbs := hb.size
      clear hx hy hD2 hz hd' hw hv hcount
      go_wp2
      go_quiet ((go_at_call 55; exact quiet_one (HD2.out _ (R2.below (below_drewN (Below.refl _ _) _)))))
      go_wp2_with (at_builtin; refine wpl_append_one Try.numTy32 rfl _ _ rfl w.heap.size k _ ds rfl ((owns_drewN hown _).alloc _) z ⟨_, 0, none⟩ rfl (cell_alloc_drewN _ _ _ _) (by omega) (by omega) (Nat.le_trans hbs (le_alloc_drewN _ _ _)) ?_)
      intro q' c' w' hown' hgrow
      have hb' : Below w.heap.size w w' := ((below_drewN hb _).alloc hbs _).grown hgrow (Nat.le_trans hbs (le_alloc_drewN _ _ _)) (fun k hk => (hown.lt k hk).1)
      clear hown hb R2 hgrow hcx
      go_wp2
      go_roundw
      case rel => exact ⟨k + 1, d', c', q', ds ++ [z], by omega, by go_num, (by first | rfl | exact congrArg (Value.int .u32) e2), hd1, rfl, hown', hb', H1, H2⟩
      case measure => simp [intOf]; omega
    · obtain rfl : k = l1 := by omega
      have hcount : ds.length = k := by have := hown.1; rw [ints_length] at this; omega
      have hrd := owns_rd (β := 65536) hown (Nat.le_refl _) (fun i hi => hw.out i (by omega))
      have hval : Hid (val 65536 ds = val 65536 xs - val 65536 ys) := Lib.hid (by
        have hx := r1.val_lt (by omega) (Nat.le_refl k)
        have hy := vl_mod (β := 65536) ys k (fun i _ => r2.words (by omega) i)
        rw [Nat.mod_eq_of_lt (by have := HLE.out; omega)] at hy
        have := hv.out
        rw [← hy, r1.vl] at this
        rw [← hrd.vl]
        exact sub_whole this (vl_lt _ _ hw.out) HLE.out)
      have hnil := Lib.hid (owns_nil hown)
      have hroom := owns_room hown
      clear hown hw hv hcount
      go_wp2_with fail
      refine (refTrim_val q k cp ds _ hroom (by omega) hrd).mono ?_
      rintro e w' ⟨n, rfl, hn, hR, rfl⟩
      rw [hval.out] at hR
      go_wp2
      go_ret
      exact ⟨q, n, cp, rfl, by omega, hnil.out, hR, hb⟩

set_option maxHeartbeats 1000000 in
theorem refCmp_any {B1 B2 : Nat} (p1 p2 : Option Addr) (l1 l2 c1 c2 : Nat) (xs ys : List Nat) (w : World) (h1 : l1 ≤ c1) (h2 : l2 ≤ c2) (k1 : l1 ≤ 1000000) (k2 : l2 ≤ 1000000)
    (r1 : Rd .u32 65536 B1 w p1 l1 xs) (r2 : Rd .u32 65536 B2 w p2 l2 ys) :
    Calls Try.prog 47 #[.slice p1 l1 c1, .slice p2 l2 c2] w fun e w' => e = .returned (.int .i64 (cmpN (val 65536 xs) (val 65536 ys))) ∧ Below w.heap.size w w' := by
  obtain ⟨x, hx⟩ : ∃ x, x = val 65536 xs := ⟨_, rfl⟩
  obtain ⟨y, hy⟩ : ∃ y, y = val 65536 ys := ⟨_, rfl⟩
  rw [← hx, ← hy]
  have HX := Lib.hid hx
  have HY := Lib.hid hy
  clear hx hy
  go_enter Try.func47, Try.ntmps47
  go_wp2_with fail
  refine (refTrim_val p1 l1 c1 xs w h1 (by omega) r1).mono ?_
  rintro e w' ⟨n1, rfl, hn1, hR1, rfl⟩
  go_wp2_with fail
  refine (refTrim_val p2 l2 c2 ys w h2 (by omega) r2).mono ?_
  rintro e w' ⟨n2, rfl, hn2, hR2, rfl⟩
  rw [← HX.out] at hR1
  rw [← HY.out] at hR2
  clear r1 r2
  by_cases hne : n1 = n2
  · subst hne
    go_wp2_with fail
    go_loopw [5] (fun i wr => ∃ k : Nat, k ≤ n1 ∧ i = .int .i64 (k - 1) ∧ (∃ d, wr = w.drewN d) ∧ Hid (∀ j, k ≤ j → j < n1 → nth (digs 65536 x) j = nth (digs 65536 y) j)) (fun i _ => (intOf i + 1).toNat)
    case atStart => exact ⟨n1, Nat.le_refl _, rfl, ⟨0, rfl⟩, Lib.hid (fun j h1 h2 => by omega)⟩
    case round =>
      obtain ⟨k, hk, rfl, ⟨d, rfl⟩, he⟩ := hrel
      by_cases h0 : 0 < k
      · obtain ⟨b1, o1, rfl, _, hc1⟩ := hR1.cell (k - 1) (by omega)
        obtain ⟨b2, o2, rfl, _, hc2⟩ := hR2.cell (k - 1) (by omega)
        have hk1 : 0 ≤ (k : Int) - 1 := by omega
        have hk2 : ((k : Int) - 1).toNat = k - 1 := by omega
        have hk3 : (k : Int) - 1 < n1 := by omega
        obtain ⟨u, hu⟩ : ∃ u, u = nth (digs 65536 x) (k - 1) := ⟨_, rfl⟩
        obtain ⟨v, hv⟩ : ∃ v, v = nth (digs 65536 y) (k - 1) := ⟨_, rfl⟩
        rw [← hu] at hc1
        rw [← hv] at hc2
        have HU := Lib.hid hu
        have HV := Lib.hid hv
        clear hu hv
        by_cases huv : u = v
        · subst huv
          have he' : Hid (∀ j, k - 1 ≤ j → j < n1 → nth (digs 65536 x) j = nth (digs 65536 y) j) := Lib.hid (fun j a b => by
            by_cases hj : j = k - 1
            · rw [hj, ← HU.out, ← HV.out]
            · exact he.out j (by omega) b)
          clear HU HV he
          go_wp2
          go_quiet (fail)
          go_wp2
          go_quiet (fail)
          go_wp2
          go_roundw
          case rel => exact ⟨k - 1, by omega, by go_num, ⟨_, rfl⟩, he'⟩
          case measure => simp [intOf]; omega
        · have hw : Hid (cmpN u v = cmpN x y) := Lib.hid (by
            rw [HU.out, HV.out]
            exact cmp_at (by omega) hR1.count hR2.count (show k - 1 < n1 by omega) (fun j a b => he.out j (by omega) b) (by rw [← HU.out, ← HV.out]; exact huv))
          clear HU HV he
          rcases Nat.lt_or_gt_of_ne huv with hlt | hlt
          · clear huv
            go_wp2
            go_quiet (fail)
            go_wp2
            go_ret
            exact ⟨by rw [← hw.out, cmpN_lt hlt]; rfl, below_drewN (below_drewN (Below.refl _ _) _) _⟩
          · clear huv
            go_wp2
            go_quiet (fail)
            go_wp2
            go_quiet (fail)
            go_wp2
            go_ret
            exact ⟨by rw [← hw.out, cmpN_gt hlt]; rfl, below_drewN (below_drewN (below_drewN (Below.refl _ _) _) _) _⟩
      · have hz := cmp_same (β := 65536) (by omega) hR1.count hR2.count (fun j hj => he.out j (by omega) hj)
        have HZ := Lib.hid hz
        clear hz
        go_wp2
        go_ret
        exact ⟨by rw [HZ.out]; rfl, below_drewN (Below.refl _ _) _⟩
  · have hw := cmp_len (β := 65536) (by omega) hR1.count hR2.count hne
    have HW := Lib.hid hw
    clear hw
    rcases Nat.lt_or_gt_of_ne hne with hlt | hlt
    · clear hne
      go_wp2
      go_ret
      exact ⟨by rw [← HW.out, cmpN_lt hlt]; rfl, Below.refl _ _⟩
    · clear hne
      go_wp2
      go_ret
      exact ⟨by rw [← HW.out, cmpN_gt hlt]; rfl, Below.refl _ _⟩

theorem nbits_half {x : Nat} (h : 0 < x) : nbits x = nbits (x / 2) + 1 := by
  unfold nbits; rw [digs_pos (by omega) h]; rfl

end Go.Proofs.Ytknkakkdhihngaa
