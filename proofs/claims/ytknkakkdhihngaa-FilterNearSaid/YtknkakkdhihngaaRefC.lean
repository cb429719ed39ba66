/- The document's own answers for layer 1: Mul of any digits. -/
import Derived.Test.YtknkakkdhihngaaRefB
namespace Go.Proofs.Ytknkakkdhihngaa
open Go.RowKit

theorem nth_set (zs : List Nat) (p v i : Nat) (hp : p < zs.length) : nth (zs.set p v) i = if i = p then v else nth zs i := by
  unfold nth
  rw [List.getD_eq_getElem?_getD, List.getElem?_set]
  by_cases h : p = i
  · subst h; simp [hp]
  · have h' : ¬ i = p := fun e => h e.symm
    simp [h, h']
theorem vl_set {β : Nat} (zs : List Nat) (p v n : Nat) (hp : p < zs.length) (hn : p < n) : vl β (zs.set p v) n + nth zs p * β ^ p = vl β zs n + v * β ^ p := by
  induction n with
  | zero => omega
  | succ n ih =>
    rw [vl_succ, vl_succ]
    by_cases h : p = n
    · subst h
      rw [nth_set _ _ _ _ hp, if_pos rfl, vl_congr (xs := zs.set p v) (ys := zs) (fun i hi => by rw [nth_set _ _ _ _ hp, if_neg (by omega)])]
      omega
    · rw [nth_set _ _ _ _ hp, if_neg (by omega)]
      have := ih (by omega)
      omega
theorem row_step {β V V' o z c c' x y Yk i k R : Nat} (hs : z + c' * β = o + x * y + c) (h1 : V' + o * β ^ (i + k) = V + z * β ^ (i + k)) (h : V + c * β ^ (i + k) = R + x * Yk * β ^ i) :
    V' + c' * β ^ (i + (k + 1)) = R + x * (Yk + y * β ^ k) * β ^ i := by
  have h2 : (z + c' * β) * β ^ (i + k) = (o + x * y + c) * β ^ (i + k) := by rw [hs]
  rw [Nat.add_mul, Nat.add_mul, Nat.add_mul] at h2
  have h3 : c' * β ^ (i + (k + 1)) = c' * β * β ^ (i + k) := by rw [← Nat.add_assoc, Nat.pow_succ, Nat.mul_comm (β ^ (i + k)) β, Nat.mul_assoc]
  have h4 : x * (Yk + y * β ^ k) * β ^ i = x * Yk * β ^ i + x * y * β ^ (i + k) := by
    rw [Nat.mul_add, Nat.add_mul, Nat.pow_add, ← Nat.mul_assoc, Nat.mul_assoc (x * y), Nat.mul_comm (β ^ k)]
  rw [h3, h4]
  omega

set_option maxHeartbeats 2000000 in
theorem refMul_any {B1 B2 : Nat} (p1 p2 : Option Addr) (l1 l2 c1 c2 : Nat) (xs ys : List Nat) (w : World) (h1 : l1 ≤ c1) (_h2 : l2 ≤ c2) (k1 : l1 ≤ 900000) (k2 : l2 ≤ 900000)
    (r1 : Rd .u32 65536 B1 w p1 l1 xs) (r2 : Rd .u32 65536 B2 w p2 l2 ys) (hB1 : B1 ≤ w.heap.size) (hB2 : B2 ≤ w.heap.size) :
    Calls Try.prog 45 #[.slice p1 l1 c1, .slice p2 l2 c2] w (Gives .u32 65536 w (val 65536 xs * val 65536 ys)) := by
  replace r1 := r1.mono hB1
  replace r2 := r2.mono hB2
  clear hB1 hB2
  go_enter Try.func45, Try.ntmps45
  go_wp2_with (at_make; refine wpl_make_nums Try.numTy32 rfl _ _ rfl _ _ _ _ (l1 + l2 + 1) rfl rfl (by omega) (by omega) (by omega) (by omega) ?_)
  intro w1 hrow hgrow
  have hb1 : Below w.heap.size w w1 := (Below.refl _ _).grown hgrow (Nat.le_refl _) (fun k hk => by simp at hk)
  have R1 := r1.below hb1
  have R2 := r2.below hb1
  obtain ⟨g, hg⟩ : ∃ g, g = w.heap.size := ⟨_, rfl⟩
  rw [← hg] at hrow R1 R2
  have HG := Lib.hid hg
  have hgw := hrow.lt
  have hgs : g ≤ w1.heap.size := by omega
  have hB : w.heap.size ≤ g := by rw [HG.out]; exact Nat.le_refl _
  obtain ⟨N, hN⟩ : ∃ N, N = l1 + l2 + 1 := ⟨_, rfl⟩
  rw [← hN] at hrow ⊢
  rw [← hg]
  have hN1 : l1 + l2 < N := by omega
  have hN2 : N ≤ 2000000 := by omega
  clear hgrow hg hN r1 r2
  go_wp2_with fail
  go_loopw [6] (fun i wr => ∃ (k : Nat) (zs : List Nat) (f' : Nat → Value), k ≤ l1 ∧ i = .int .i64 k ∧ Hid (zs.length = N) ∧ Hid (∀ i, nth zs i < 65536) ∧ Row wr g 65 N f' ∧ Hid (∀ j, j < N → f' j = .int .u32 ((nth zs j : Nat) : Int)) ∧
      Hid (vl 65536 zs N = vl 65536 xs k * val 65536 ys) ∧ Hid (∀ j, k + l2 ≤ j → nth zs j = 0) ∧ w1.grownBy wr (some g)) (fun i _ => l1 - (intOf i).toNat)
  case atStart => exact ⟨0, List.replicate N 0, _, Nat.zero_le _, rfl, Lib.hid (by simp), Lib.hid (fun i => by rw [nth_replicate]; split <;> omega), hrow, Lib.hid (fun j hj => by rw [nth_replicate, if_pos hj]; rfl), Lib.hid (by rw [vl_replicate, vl_zero, Nat.zero_mul]), Lib.hid (fun j _ => by rw [nth_replicate]; split <;> rfl), World.grownBy.refl _ _⟩
  case round =>
    obtain ⟨i, zs, f', hi, rfl, hzl, hzw, hr, hf, hv, hz0, hgr⟩ := hrel
    by_cases hlt : i < l1
    · obtain ⟨x, hx⟩ : ∃ x, x = nth xs i := ⟨_, rfl⟩
      have hxw : x < 65536 := by rw [hx]; exact R1.word i hlt
      have HX := Lib.hid hx
      clear hx
      go_wp2_with fail
      go_loopw [7, 8] (fun c k wr => ∃ (k1 d : Nat) (zs : List Nat) (f' : Nat → Value), k1 ≤ l2 + 1 ∧ k = .int .i64 k1 ∧ c = .int .u64 d ∧ d < 65536 ∧ Hid (k1 = l2 + 1 → d = 0) ∧ Hid (zs.length = N) ∧ Hid (∀ i, nth zs i < 65536) ∧ Row wr g 65 N f' ∧ Hid (∀ j, j < N → f' j = .int .u32 ((nth zs j : Nat) : Int)) ∧
          Hid (vl 65536 zs N + d * 65536 ^ (i + k1) = vl 65536 xs i * val 65536 ys + x * vl 65536 ys k1 * 65536 ^ i) ∧ Hid (∀ j, i + l2 ≤ j → i + k1 ≤ j → nth zs j = 0) ∧ w1.grownBy wr (some g)) (fun _ k _ => l2 + 1 - (intOf k).toNat)
      case atStart => exact ⟨0, 0, zs, f', by omega, rfl, rfl, by omega, Lib.hid (fun _ => rfl), hzl, hzw, hr, hf, Lib.hid (by rw [hv.out, vl_zero]; simp), Lib.hid (fun j a _ => hz0.out j a), hgr⟩
      case round =>
        clear hzl hzw hr hf hv hz0 hgr
        obtain ⟨k, d, zs, f', hk, rfl, rfl, hd, hdk, hzl, hzw, hr, hf, hv, hz0, hgr⟩ := hrel
        have hR1k := R1.grown hgr (Nat.le_refl _) hgs
        have hR2k := R2.grown hgr (Nat.le_refl _) hgs
        by_cases hgo : k < l2 ∨ 0 < d
        · have hkl : k ≤ l2 := by
            by_cases h : k = l2 + 1
            · have := hdk.out h; omega
            · omega
          have hro : Row wr g 65 N f' := hr
          obtain ⟨b1, o1, rfl, _, hcx⟩ := hR1k.cell i hlt
          rw [← HX.out] at hcx
          have hco := hr.cell (i + k) (by omega)
          rw [hf.out _ (by omega)] at hco
          have hfr := hr.free (i + k)
          obtain ⟨o, ho⟩ : ∃ o, o = nth zs (i + k) := ⟨_, rfl⟩
          obtain ⟨y, hy⟩ : ∃ y, y = nth ys k := ⟨_, rfl⟩
          rw [← ho] at hco
          have how : o < 65536 := by rw [ho]; exact hzw.out _
          have hyw : y < 65536 := by rw [hy]; exact hR2k.words (by omega) k
          have hDg : ∀ W, Rd .u32 65536 g W p2 l2 ys → Calls Try.prog 55 #[.slice p2 l2 c2, .int .i64 (k : Int)] W _ := fun W h => refDigit_any p2 l2 c2 k ys W (by omega) (by omega) h
          rw [← hy] at hDg
          have HDg := Lib.hid hDg
          obtain ⟨m, hm⟩ : ∃ m, m = x * y := ⟨_, rfl⟩
          have hmb : m ≤ 4294836225 := by rw [hm]; exact Nat.mul_le_mul (show x ≤ 65535 by omega) (show y ≤ 65535 by omega)
          have em : (x : Int) * (y : Int) = (m : Int) := by rw [hm]; simp
          clear hDg
          have HM := Lib.hid hm
          have HO := Lib.hid ho
          have HY := Lib.hid hy
          clear hm ho hy
          obtain ⟨z, hz⟩ : ∃ z, z = (o + m + d) % 65536 := ⟨_, rfl⟩
          obtain ⟨d', hdd⟩ : ∃ d', d' = (o + m + d) / 65536 := ⟨_, rfl⟩
          have e1 : ((o : Int) + m + d) % 65536 = (z : Int) := by omega
          have e2 : ((o : Int) + m + d) / 65536 = (d' : Int) := by omega
          have hd' : d' < 65536 := by omega
          have hzb : z < 65536 := by omega
          have hlen : i + k < zs.length := by rw [hzl.out]; omega
          have H1 : Hid ((zs.set (i + k) z).length = N) := Lib.hid (by rw [List.length_set]; exact hzl.out)
          have H3 : Hid (∀ j, nth (zs.set (i + k) z) j < 65536) := Lib.hid (fun j => by
            rw [nth_set _ _ _ _ hlen]; split
            · exact hzb
            · exact hzw.out j)
          have H4 : Hid (∀ j, j < N → (if j = i + k then Value.int .u32 (z : Int) else f' j) = .int .u32 ((nth (zs.set (i + k) z) j : Nat) : Int)) := Lib.hid (fun j hj => by
            rw [nth_set _ _ _ _ hlen]
            by_cases h : j = i + k
            · rw [if_pos h, if_pos h]
            · rw [if_neg h, if_neg h]; exact hf.out j hj)
          have H2 : Hid (vl 65536 (zs.set (i + k) z) N + d' * 65536 ^ (i + (k + 1)) = vl 65536 xs i * val 65536 ys + x * vl 65536 ys (k + 1) * 65536 ^ i) := Lib.hid (by
            rw [vl_succ, ← HY.out]
            have hs : z + d' * 65536 = o + x * y + d := by rw [← HM.out]; omega
            have hv1 := vl_set (β := 65536) zs (i + k) z N hlen (by omega)
            rw [← HO.out] at hv1
            exact row_step hs hv1 hv.out)
          have H7 : Hid (∀ j, i + l2 ≤ j → i + (k + 1) ≤ j → nth (zs.set (i + k) z) j = 0) := Lib.hid (fun j a b => by
            rw [nth_set _ _ _ _ hlen, if_neg (by omega)]; exact hz0.out j a (by omega))
          have H5 : Hid (k + 1 = l2 + 1 → d' = 0) := Lib.hid (fun h => by
            have hkl2 : k = l2 := by omega
            have o0 : o = 0 := by rw [HO.out]; exact hz0.out _ (by omega) (by omega)
            have y0 : y = 0 := by rw [HY.out]; exact nth_past _ _ (by rw [hR2k.count]; omega)
            have m0 : m = 0 := by rw [HM.out, y0, Nat.mul_zero]
            rw [hdd, o0, m0]; omega)
          have H6 := hr.set (i + k) (.int .u32 (z : Int))
          have hgo2 : k < l2 ∨ (l2 ≤ k ∧ 0 < d) := by omega
          clear hgo hz hdd hlen hf hv hz0 hzl hzw hro hdk hr
          rcases hgo2 with hgo | ⟨hgo, hgo'⟩
          · go_wp2
            go_quiet ((go_at_call 55; exact quiet_one (HDg.out _ (hR2k.below (below_drewN (Below.refl _ _) _)))))
            go_wp2
            go_roundw
            case rel => exact ⟨k + 1, d', zs.set (i + k) z, _, by omega, by go_num, congrArg (Value.int .u64) e2, hd', H5, H1, H3, H6, H4, H2, H7, grown_trans (grown_drewN hgr _) (grown_set _ _ _ _)⟩
            case measure => simp [intOf]; omega
          · go_wp2
            go_quiet ((go_at_call 55; exact quiet_one (HDg.out _ (hR2k.below (below_drewN (Below.refl _ _) _)))))
            go_wp2
            go_roundw
            case rel => exact ⟨k + 1, d', zs.set (i + k) z, _, by omega, by go_num, congrArg (Value.int .u64) e2, hd', H5, H1, H3, H6, H4, H2, H7, grown_trans (grown_drewN hgr _) (grown_set _ _ _ _)⟩
            case measure => simp [intOf]; omega
        · have hk2 : l2 ≤ k := by omega
          obtain rfl : d = 0 := by omega
          have H2 : Hid (vl 65536 zs N = vl 65536 xs (i + 1) * val 65536 ys) := Lib.hid (by
            have := hv.out
            rw [Nat.zero_mul, Nat.add_zero, vl_past ys k (by rw [hR2k.count]; exact hk2)] at this
            rw [this, vl_succ, ← HX.out, Nat.add_mul, Nat.mul_right_comm])
          have H7 : Hid (∀ j, i + 1 + l2 ≤ j → nth zs j = 0) := Lib.hid (fun j a => hz0.out j (by omega) (by omega))
          clear hgo hv hz0
          go_wp2
          go_roundw
          case rel => exact ⟨i + 1, zs, f', by omega, by go_num, hzl, hzw, hr, hf, H2, H7, hgr⟩
          case measure => simp [intOf]; omega
    · obtain rfl : i = l1 := by omega
      have hrd : Rd .u32 65536 _ _ (some ⟨g, 0, none⟩) N zs := hr.rd 0 N zs hr.lt (by omega) hzl.out (fun j _ => hzw.out j) (fun j hj => by rw [Nat.zero_add]; exact hf.out j hj)
      have hval : Hid (val 65536 zs = val 65536 xs * val 65536 ys) := Lib.hid (by rw [← hrd.vl, hv.out, R1.vl])
      have hbel := hb1.grown hgr hb1.size (fun j hj => by simp at hj; omega)
      clear hv hzw hzl hz0 hf hr
      go_wp2_with fail
      refine (refTrim_val _ N _ zs _ (Nat.le_refl _) (by omega) hrd).mono ?_
      rintro e w' ⟨n, rfl, hn, hR, rfl⟩
      rw [hval.out] at hR
      go_wp2
      go_ret
      exact ⟨_, n, N, rfl, by omega, fun h => by simp at h, hR, hbel⟩
end Go.Proofs.Ytknkakkdhihngaa
