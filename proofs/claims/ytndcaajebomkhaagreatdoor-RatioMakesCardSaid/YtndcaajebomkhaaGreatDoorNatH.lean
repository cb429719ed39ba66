/- Layer 1 (nat): Shl and Shr of any numbers. -/
import Derived.Test.YtndcaajebomkhaaGreatDoorNatF
import Derived.Laws.BitsAllLaws
namespace Go.Proofs.YtndcaajebomkhaaGreatDoor
open Go.RowKit

/-! Plain mathematics: a limb moved. -/
theorem W64_split (r : Nat) (hr : r ≤ 64) : W64 = 2 ^ r * 2 ^ (64 - r) := by
  rw [← Nat.pow_add, W64_pow]; congr 1; omega
theorem shl_hi (x r : Nat) (hr : r ≤ 64) : x * 2 ^ r / W64 = x / 2 ^ (64 - r) := by
  rw [W64_split r hr, Nat.mul_comm x, Nat.mul_div_mul_left _ _ (Nat.pow_pos (by omega))]
theorem shl_lo (x r : Nat) (hr : r ≤ 64) : x * 2 ^ r % W64 = (x % 2 ^ (64 - r)) * 2 ^ r := by
  rw [W64_split r hr, Nat.mul_comm x, Nat.mul_mod_mul_left, Nat.mul_comm]
theorem shl_or (x r c : Nat) (hr : r ≤ 64) (hc : c < 2 ^ r) : x * 2 ^ r % W64 ||| c = x * 2 ^ r % W64 + c := by
  rw [shl_lo x r hr, ← Nat.shiftLeft_eq, Nat.shiftLeft_add_eq_or_of_lt hc]

theorem wrap_u64 (n : Nat) : IntKind.u64.wrap (n : Int) = ((n % W64 : Nat) : Int) := by
  simp [IntKind.wrap, IntKind.signed, IntKind.bits, W64]
theorem shl_expr {t r d s : Nat} (hr : r ≤ 64) (hd : d < 2 ^ r) (hs : s = t * 2 ^ r % W64 + d) : bits BinOp.or IntKind.u64 (IntKind.u64.wrap ((t : Int) * 2 ^ r)) (d : Int) = (s : Int) := by
  have e : (t : Int) * 2 ^ r = ((t * 2 ^ r : Nat) : Int) := by simp
  have h1 : t * 2 ^ r % W64 < W64 := Nat.mod_lt _ W64_pos
  have h2 : d < W64 := Nat.lt_of_lt_of_le hd (by rw [W64_pow]; exact Nat.pow_le_pow_right (by omega) hr)
  rw [e, wrap_u64, u64_or_nat _ _ h1 h2, shl_or _ _ _ hr hd, hs]
theorem shr_expr {t r d : Nat} (hr : r ≤ 64) (hd : d = t * 2 ^ r / W64) : (t : Int) / 2 ^ (64 - r) = (d : Int) := by
  rw [hd, shl_hi _ _ hr]; simp
theorem shl_limb {t r d s d' : Nat} (hs : s = t * 2 ^ r % W64 + d) (hd' : d' = t * 2 ^ r / W64) : s + d' * W64 = t * 2 ^ r + d := by
  have := Nat.div_add_mod (t * 2 ^ r) W64
  rw [← hd', Nat.mul_comm] at this
  omega
theorem shl_lt {t r d' : Nat} (ht : t < W64) (hd' : d' = t * 2 ^ r / W64) : d' < 2 ^ r := by
  rw [hd', Nat.div_lt_iff_lt_mul W64_pos, Nat.mul_comm]
  exact Nat.mul_lt_mul_of_pos_left ht (Nat.pow_pos (by omega))
theorem shl_word {t r d s : Nat} (hr : r ≤ 64) (hd : d < 2 ^ r) (hs : s = t * 2 ^ r % W64 + d) : s < W64 := by
  have h1 : t % 2 ^ (64 - r) < 2 ^ (64 - r) := Nat.mod_lt _ (Nat.pow_pos (by omega))
  rw [shl_lo _ _ hr] at hs
  have h2 : (t % 2 ^ (64 - r) + 1) * 2 ^ r ≤ 2 ^ (64 - r) * 2 ^ r := Nat.mul_le_mul_right _ h1
  rw [Nat.add_mul, Nat.mul_comm (2 ^ (64 - r)) (2 ^ r), ← W64_split r hr] at h2
  rw [hs]
  omega
theorem shl_step {β s t R d d' n Z X : Nat} (hl : s + d' * β = t * R + d) (h : Z + d * β ^ n = X * R) :
    (Z + s * β ^ n) + d' * β ^ (n + 1) = (X + t * β ^ n) * R := by
  have h2 : (s + d' * β) * β ^ n = (t * R + d) * β ^ n := by rw [hl]
  rw [Nat.add_mul, Nat.add_mul] at h2
  have h3 : d' * β ^ (n + 1) = d' * β * β ^ n := by rw [Nat.pow_succ, Nat.mul_comm (β ^ n) β, Nat.mul_assoc]
  have h4 : t * β ^ n * R = t * R * β ^ n := by rw [Nat.mul_right_comm]
  rw [h3, Nat.add_mul, h4]
  omega
theorem shl_whole {L n d X n' r : Nat} (zs : List Nat) (hz : zs.length = n) (hv : vl W64 zs n + d * W64 ^ n = X * 2 ^ r) (hn : n' / 64 = L) (hr : n' % 64 = r) :
    vl W64 (List.replicate L 0 ++ (zs ++ [d])) (L + n + 1) = X * 2 ^ n' := by
  have e1 : 2 ^ n' = W64 ^ L * 2 ^ r := by
    rw [W64_pow, ← Nat.pow_mul, ← Nat.pow_add]; congr 1; omega
  rw [Nat.add_assoc, vl_add, vl_congr (xs := List.replicate L 0 ++ (zs ++ [d])) (ys := List.replicate L 0) (fun i hi => nth_append_lt _ _ _ (by rw [List.length_replicate]; exact hi)), vl_replicate, Nat.zero_add,
    List.drop_append_of_le_length (by rw [List.length_replicate]; exact Nat.le_refl _), List.drop_of_length_le (by rw [List.length_replicate]; exact Nat.le_refl _), List.nil_append, vl_succ,
    vl_congr (xs := zs ++ [d]) (ys := zs) (fun i hi => nth_append_lt _ _ _ (by omega)), nth_snoc _ _ _ hz.symm, hv, e1, Nat.mul_left_comm]

set_option maxHeartbeats 2000000 in
theorem natShl_tight {B1 : Nat} (p1 : Option Addr) (l1 c1 n L r : Nat) (xs : List Nat) (w : World) (h1 : l1 ≤ c1) (k1 : l1 ≤ 1000000)
    (r1 : Rd .u64 W64 B1 w p1 l1 xs) (hB1 : B1 ≤ w.heap.size) (hle : (digs W64 (val W64 xs)).length ≤ 1024) (hn : n ≤ 65536) (hL : n / 64 = L) (hr : n % 64 = r) :
    Calls Tryz.prog 59 #[.slice p1 l1 c1, .int .i64 (n : Int)] w (Gives2T .u64 W64 w (val W64 xs * 2 ^ n)) := by
  obtain ⟨x, hx⟩ : ∃ x, x = val W64 xs := ⟨_, rfl⟩
  rw [← hx] at hle ⊢
  have HL := Lib.hid hle
  have HX := Lib.hid hx
  have hq1 : (n : Int) / 64 = (L : Int) := by omega
  have hq2 : (n : Int) % 64 = (r : Int) := by omega
  have hn0 : ¬ ((65536 : Int) < n) := by omega
  have hr64 : r < 64 := by omega
  have hL64 : L ≤ 1024 := by omega
  have HLr := Lib.hid hL
  have Hrr := Lib.hid hr
  clear hle hx hL hr
  go_enter Tryz.func59, Tryz.ntmps59
  go_wp2_with fail
  refine (trim_val p1 l1 c1 xs w h1 (by omega) r1).mono ?_
  rintro e w' ⟨q1, n1, rfl, hn1, hqq, hR1, rfl⟩
  rw [← HX.out] at hR1
  replace hR1 := hR1.mono hB1
  clear r1 HX hB1
  have h3 : n1 ≤ 1024 := by have := HL.out; rw [hR1.count] at this; exact this
  clear HL
  go_wp2_with (at_make; refine wpl_make_nums Tryz.numTy64 rfl _ _ rfl _ _ _ _ (L + n1 + 1) rfl rfl (by omega) (by omega) (by omega) (by omega) ?_)
  intro w1 hrow hgrow
  have hb1 : Below w.heap.size w w1 := (Below.refl _ _).grown hgrow (Nat.le_refl _) (fun k hk => by simp at hk)
  have hR1' := hR1.below hb1
  obtain ⟨g, hg⟩ : ∃ g, g = w.heap.size := ⟨_, rfl⟩
  rw [← hg] at hrow hR1' ⊢
  have HG := Lib.hid hg
  have hgw := hrow.lt
  have hgs : g ≤ w1.heap.size := by omega
  have hB : w.heap.size ≤ g := by rw [HG.out]; exact Nat.le_refl _
  clear hgrow hg
  go_wp2_with fail
  go_loopw [9, 39] (fun c i wr => ∃ (k d : Nat) (zs : List Nat) (f' : Nat → Value), k ≤ n1 ∧ i = .int .i64 k ∧ c = .int .u64 d ∧ Hid (d < 2 ^ r) ∧ Hid (zs.length = k) ∧ Hid (∀ i, i < k → nth zs i < W64) ∧ Row wr g 53 (L + n1 + 1) f' ∧ Part .u64 (fun _ => .int .u64 0) f' L zs ∧
      Hid (vl W64 zs k + d * W64 ^ k = vl W64 (digs W64 x) k * 2 ^ r) ∧ w1.grownBy wr (some g)) (fun _ i _ => n1 - (intOf i).toNat)
  case atStart => exact ⟨0, 0, [], _, Nat.zero_le _, rfl, rfl, Lib.hid (Nat.pow_pos (by omega)), Lib.hid rfl, Lib.hid (fun i hi => by omega), hrow, Part.none _ _ _, Lib.hid (by simp [vl]), World.grownBy.refl _ _⟩
  case round =>
    obtain ⟨k, d, zs, f', hk, rfl, rfl, hd, hzl, hzw, hr, hp, hv, hgr⟩ := hrel
    by_cases hlt : k < n1
    · obtain ⟨b, o, rfl, hb, hcx⟩ := (hR1'.grown hgr (Nat.le_refl _) hgs).cell k hlt
      have ht := hR1'.word k hlt
      obtain ⟨t, het⟩ : ∃ t, t = nth (digs W64 x) k := ⟨_, rfl⟩
      rw [← het] at hcx ht
      have HT := Lib.hid ht
      have HET := Lib.hid het
      clear ht het
      have hfr := hr.free (L + k)
      have hcl := hr.cell (L + k) (by omega)
      have hk3 : (k : Int) < n1 := by omega
      obtain ⟨s, hs⟩ : ∃ s, s = t * 2 ^ r % W64 + d := ⟨_, rfl⟩
      obtain ⟨d', hd'⟩ : ∃ d', d' = t * 2 ^ r / W64 := ⟨_, rfl⟩
      have e1 := shl_expr (t := t) (r := r) (by omega) hd.out hs
      have e2 := shr_expr (t := t) (r := r) (by omega) hd'
      have H0 : Hid (d' < 2 ^ r) := Lib.hid (shl_lt HT.out hd')
      have hsw : Hid (s < W64) := Lib.hid (shl_word (by omega) hd.out hs)
      have H1 : Hid (nth (zs ++ [s]) k = s) := Lib.hid (nth_snoc _ _ _ hzl.out.symm)
      have H2 : Hid (vl W64 (zs ++ [s]) (k + 1) + d' * W64 ^ (k + 1) = vl W64 (digs W64 x) (k + 1) * 2 ^ r) := Lib.hid (by
        rw [vl_succ, vl_succ, H1.out, ← HET.out, vl_congr (xs := zs ++ [s]) (ys := zs) (fun i hi => nth_append_lt _ _ _ (by rw [hzl.out]; exact hi))]
        exact shl_step (shl_limb hs hd') hv.out)
      have H3 : Hid (∀ i, i < k + 1 → nth (zs ++ [s]) i < W64) := Lib.hid (fun i hi => by
        by_cases hik : i = k
        · rw [hik, H1.out]; exact hsw.out
        · rw [nth_append_lt _ _ _ (by rw [hzl.out]; omega)]; exact hzw.out i (by omega))
      have H4 := hp.snoc s k hzl.out
      have H5 : Hid ((zs ++ [s]).length = k + 1) := Lib.hid (by simp [hzl.out])
      have H6 := hr.set (L + k) (.int .u64 (s : Int))
      clear hs hd' hv hzw hzl H1 hd HT HET hp hr hsw
      go_wp2
      go_roundw
      case rel => exact ⟨k + 1, d', zs ++ [s], _, by omega, by go_num, rfl, H0, H5, H3, H6, H4, H2, grown_trans hgr (grown_set _ _ _ _)⟩
      case measure => simp [intOf]; omega
    · obtain rfl : k = n1 := by omega
      have hfr := hr.free (L + k)
      have hcl := hr.cell (L + k) (by omega)
      have hLk : (L : Int) + k < L + k + 1 := by omega
      have H6 := hr.set (L + k) (.int .u64 (d : Int))
      have H4 := hp.snoc d k hzl.out
      have hdw : d < W64 := Nat.lt_of_lt_of_le hd.out (by rw [W64_pow]; exact Nat.pow_le_pow_right (by omega) (by omega))
      have hlen : Hid ((List.replicate L 0 ++ (zs ++ [d])).length = L + k + 1) := Lib.hid (by rw [List.length_append, List.length_append, List.length_replicate, hzl.out]; rfl)
      have hlen2 : (zs ++ [d]).length = k + 1 := by rw [List.length_append, hzl.out]; rfl
      have hrd : Rd .u64 W64 _ _ (some ⟨g, 0, none⟩) (L + k + 1) (List.replicate L 0 ++ (zs ++ [d])) := H6.rd 0 (L + k + 1) _ H6.lt (by omega) hlen.out (fun i hi => by
          by_cases h : i < L
          · rw [nth_append_lt _ _ _ (by rw [List.length_replicate]; exact h), nth_replicate]; have := W64_pos; split <;> omega
          · rw [nth_append_ge _ _ _ (by rw [List.length_replicate]; omega), List.length_replicate]
            by_cases h2 : i - L < k
            · rw [nth_append_lt _ _ _ (by rw [hzl.out]; exact h2)]; exact hzw.out _ h2
            · rw [nth_snoc _ _ _ (by rw [hzl.out]; omega)]; exact hdw) (fun i hi => by
          rw [Nat.zero_add]
          by_cases h : i < L
          · rw [H4.old i (Or.inl h), nth_append_lt _ _ _ (by rw [List.length_replicate]; exact h), nth_replicate]; split <;> rfl
          · rw [nth_append_ge _ _ _ (by rw [List.length_replicate]; omega), List.length_replicate]
            have := H4.new (i - L) (by rw [hlen2]; omega)
            rwa [show L + (i - L) = i by omega] at this)
      have hval : Hid (val W64 (List.replicate L 0 ++ (zs ++ [d])) = x * 2 ^ n) := Lib.hid (by
        rw [← hrd.vl, shl_whole zs hzl.out hv.out HLr.out Hrr.out, hR1.vl, val_digs two_le_W64])
      have hbel := hb1.grown (grown_trans hgr (grown_set _ g (L + k) (.int .u64 (d : Int)))) hb1.size (fun j hj => by simp at hj; omega)
      clear hv hzw hzl hp hr H4 H6 hlen2 hdw
      go_wp2_with fail
      refine (trim_val _ (L + k + 1) _ _ _ (Nat.le_refl _) (by omega) hrd).mono ?_
      rintro e w' ⟨q, m, rfl, hm, hq, hR, rfl⟩
      rw [hval.out] at hR
      go_wp2
      go_ret2
      exact ⟨q, m, rfl, hq, hR, hbel⟩
theorem natShl_any {B1 : Nat} (p1 : Option Addr) (l1 c1 n L r : Nat) (xs : List Nat) (w : World) (h1 : l1 ≤ c1) (k1 : l1 ≤ 1000000)
    (r1 : Rd .u64 W64 B1 w p1 l1 xs) (hB1 : B1 ≤ w.heap.size) (hle : (digs W64 (val W64 xs)).length ≤ 1024) (hn : n ≤ 65536) (hL : n / 64 = L) (hr : n % 64 = r) :
    Calls Tryz.prog 59 #[.slice p1 l1 c1, .int .i64 (n : Int)] w (Gives2 .u64 W64 w (val W64 xs * 2 ^ n)) :=
  (natShl_tight p1 l1 c1 n L r xs w h1 k1 r1 hB1 hle hn hL hr).mono fun _ _ ⟨q, m, a1, a2, a3, a4⟩ => ⟨q, m, m, a1, Nat.le_refl _, a2, a3, a4⟩

set_option maxHeartbeats 400000 in
theorem natShl_range {B1 : Nat} (p1 : Option Addr) (l1 c1 : Nat) (n : Int) (xs : List Nat) (w : World) (h1 : l1 ≤ c1) (k1 : l1 ≤ 1000000)
    (r1 : Rd .u64 W64 B1 w p1 l1 xs) (hbad : n < 0 ∨ 65536 < n ∨ 1024 < (digs W64 (val W64 xs)).length) :
    Calls Tryz.prog 59 #[.slice p1 l1 c1, .int .i64 n] w (Fails w 7) := by
  have HB := Lib.hid hbad
  clear hbad
  by_cases a1 : n < 0
  · go_enter Tryz.func59, Tryz.ntmps59
    go_wp2_with fail
    refine (trim_val p1 l1 c1 xs w h1 (by omega) r1).mono ?_
    rintro e w' ⟨q1, n1, rfl, hn1, hqq, hR1, rfl⟩
    go_wp2
    go_ret2
    exact ⟨rfl, Below.refl _ _⟩
  · by_cases a2 : 65536 < n
    · go_enter Tryz.func59, Tryz.ntmps59
      go_wp2_with fail
      refine (trim_val p1 l1 c1 xs w h1 (by omega) r1).mono ?_
      rintro e w' ⟨q1, n1, rfl, hn1, hqq, hR1, rfl⟩
      go_wp2
      go_ret2
      exact ⟨rfl, Below.refl _ _⟩
    · have a3 : n ≤ 65536 := by omega
      have a4 : 0 ≤ n := by omega
      go_enter Tryz.func59, Tryz.ntmps59
      go_wp2_with fail
      refine (trim_val p1 l1 c1 xs w h1 (by omega) r1).mono ?_
      rintro e w' ⟨q1, n1, rfl, hn1, hqq, hR1, rfl⟩
      have h3 : 1024 < n1 := by
        rcases HB.out with h | h | h
        · omega
        · omega
        · rw [hR1.count] at h; exact h
      go_wp2
      go_ret2
      exact ⟨rfl, Below.refl _ _⟩
end Go.Proofs.YtndcaajebomkhaaGreatDoor
