/- Layer 1 (nat): Shr of any numbers. -/
import Derived.Test.YtndcaajebomkhaaGreatDoorNatH
namespace Go.Proofs.YtndcaajebomkhaaGreatDoor
open Go.RowKit

/-! Plain mathematics: a limb moved down. -/
/-- The j-th limb of what is moved down. -/
def outd (A : List Nat) (r j : Nat) : Nat := nth A j / 2 ^ r + nth A (j + 1) * 2 ^ (64 - r) % W64
theorem low_part (x r : Nat) (hr : r ≤ 64) : x * 2 ^ (64 - r) % W64 = (x % 2 ^ r) * 2 ^ (64 - r) := by
  have := shl_lo x (64 - r) (by omega)
  rw [show 64 - (64 - r) = r by omega] at this
  exact this
theorem outd_word (A : List Nat) (r j : Nat) (hr : r ≤ 64) (h : nth A j < W64) : outd A r j < W64 := by
  unfold outd
  rw [low_part _ _ hr]
  have h1 : nth A (j + 1) % 2 ^ r < 2 ^ r := Nat.mod_lt _ (Nat.pow_pos (by omega))
  have h2 : (nth A (j + 1) % 2 ^ r + 1) * 2 ^ (64 - r) ≤ 2 ^ r * 2 ^ (64 - r) := Nat.mul_le_mul_right _ h1
  rw [Nat.add_mul, ← W64_split r hr] at h2
  have h3 : nth A j / 2 ^ r < 2 ^ (64 - r) := by
    rw [Nat.div_lt_iff_lt_mul (Nat.pow_pos (by omega)), Nat.mul_comm, ← W64_split r hr]; exact h
  omega
theorem shr_tele (A out : List Nat) (r m : Nat) (hr : r ≤ 64) (ho : ∀ j, j < m → nth out j = outd A r j) (k : Nat) (hk : k ≤ m) :
    vl W64 out k * 2 ^ r + nth A 0 % 2 ^ r = vl W64 A k + nth A k % 2 ^ r * W64 ^ k := by
  induction k with
  | zero => simp [vl]
  | succ k ih =>
    have h1 := ih (by omega)
    rw [vl_succ, vl_succ, ho k (by omega)]
    have h2 : outd A r k * 2 ^ r + nth A k % 2 ^ r = nth A k + nth A (k + 1) % 2 ^ r * W64 := by
      unfold outd
      rw [low_part _ _ hr, Nat.add_mul, Nat.mul_assoc, Nat.mul_comm (2 ^ (64 - r)), ← W64_split r hr]
      have := Nat.div_add_mod (nth A k) (2 ^ r)
      rw [Nat.mul_comm] at this
      omega
    have h3 : (outd A r k * 2 ^ r + nth A k % 2 ^ r) * W64 ^ k = (nth A k + nth A (k + 1) % 2 ^ r * W64) * W64 ^ k := by rw [h2]
    rw [Nat.add_mul, Nat.add_mul] at h3
    have h4 : nth A (k + 1) % 2 ^ r * W64 ^ (k + 1) = nth A (k + 1) % 2 ^ r * W64 * W64 ^ k := by rw [Nat.pow_succ, Nat.mul_comm (W64 ^ k) W64, Nat.mul_assoc]
    have h5 : (vl W64 out k + outd A r k * W64 ^ k) * 2 ^ r = vl W64 out k * 2 ^ r + outd A r k * 2 ^ r * W64 ^ k := by rw [Nat.add_mul, Nat.mul_right_comm]
    rw [h4, h5]
    omega
theorem shr_whole (A out : List Nat) (r m : Nat) (hr : r ≤ 64) (hA : A.length = m) (ho : ∀ j, j < m → nth out j = outd A r j) : vl W64 out m = vl W64 A m / 2 ^ r := by
  have h := shr_tele A out r m hr ho m (Nat.le_refl _)
  rw [nth_past A m (by omega), Nat.zero_mod, Nat.zero_mul, Nat.add_zero] at h
  have hp : 0 < 2 ^ r := Nat.pow_pos (by omega)
  rw [← h, Nat.mul_comm, Nat.mul_add_div hp, Nat.div_eq_of_lt (Nat.mod_lt _ hp), Nat.add_zero]
theorem or_expr {t r c : Nat} (hr : r ≤ 64) (ht : t < W64) (hc : c = (c / 2 ^ (64 - r)) * 2 ^ (64 - r)) (hcw : c < W64) : bits BinOp.or IntKind.u64 ((t : Int) / 2 ^ r) (c : Int) = ((t / 2 ^ r + c : Nat) : Int) := by
  have h1 : t / 2 ^ r < 2 ^ (64 - r) := by
    rw [Nat.div_lt_iff_lt_mul (Nat.pow_pos (by omega)), Nat.mul_comm, ← W64_split r hr]; exact ht
  have h2 : t / 2 ^ r < W64 := Nat.lt_of_le_of_lt (Nat.div_le_self _ _) ht
  have e : (t : Int) / 2 ^ r = ((t / 2 ^ r : Nat) : Int) := by simp
  rw [e, u64_or_nat _ _ h2 hcw, hc, ← Nat.shiftLeft_eq, Nat.or_comm, ← Nat.shiftLeft_add_eq_or_of_lt h1, Nat.add_comm]
theorem low_div (x r : Nat) (hr : r ≤ 64) : x * 2 ^ (64 - r) % W64 = x * 2 ^ (64 - r) % W64 / 2 ^ (64 - r) * 2 ^ (64 - r) := by
  rw [low_part _ _ hr, Nat.mul_div_cancel _ (Nat.pow_pos (by omega))]
theorem wrap_expr (t r : Nat) : IntKind.u64.wrap ((t : Int) * 2 ^ r) = ((t * 2 ^ r % W64 : Nat) : Int) := by
  rw [← wrap_u64]; simp
theorem shr_split {x n L r : Nat} (hL : n / 64 = L) (hr : n % 64 = r) : x / W64 ^ L / 2 ^ r = x / 2 ^ n := by
  rw [Nat.div_div_eq_div_mul, W64_pow, ← Nat.pow_mul, ← Nat.pow_add]; congr 2; omega
theorem shr_gone {x n L m : Nat} (hx : (digs W64 x).length = m) (hL : n / 64 = L) (h : m ≤ L) : x / 2 ^ n = 0 := by
  have h1 := (digs_length_le two_le_W64 x m).1 (by omega)
  apply Nat.div_eq_of_lt
  refine Nat.lt_of_lt_of_le h1 ?_
  rw [W64_pow, ← Nat.pow_mul]
  exact Nat.pow_le_pow_right (by omega) (by omega)

set_option maxHeartbeats 2000000 in
theorem natShr_core {B1 : Nat} (p1 : Option Addr) (l1 c1 n L r : Nat) (N : Int) (xs : List Nat) (w : World) (h1 : l1 ≤ c1) (k1 : l1 ≤ 1000000)
    (r1 : Rd .u64 W64 B1 w p1 l1 xs) (hB1 : B1 ≤ w.heap.size) (hN : N = n ∨ N < 0 ∧ n = 0) (hN2 : N ≤ 9223372036854775807) (hL : n / 64 = L) (hr : n % 64 = r) :
    Calls Tryz.prog 57 #[.slice p1 l1 c1, .int .i64 N] w (Gives .u64 W64 w (val W64 xs / 2 ^ n)) := by
  obtain ⟨x, hx⟩ : ∃ x, x = val W64 xs := ⟨_, rfl⟩
  rw [← hx]
  have HX := Lib.hid hx
  have hq1 : (n : Int) / 64 = (L : Int) := by omega
  have hq2 : (n : Int) % 64 = (r : Int) := by omega
  have hr64 : r < 64 := by omega
  have HLr := Lib.hid hL
  have Hrr := Lib.hid hr
  have hLn : L ≤ n := by omega
  have hnb : n ≤ 9223372036854775807 := by omega
  have HN2 := Lib.hid hN2
  clear hx hL hr hN2
  have hmax : max N 0 = (n : Int) := by omega
  clear hN
  go_enter Tryz.func57, Tryz.ntmps57
  go_wp2_with fail
  refine (trim_val p1 l1 c1 xs w h1 (by omega) r1).mono ?_
  rintro e w' ⟨q1, n1, rfl, hn1, hqq, hR1, rfl⟩
  rw [← HX.out] at hR1
  replace hR1 := hR1.mono hB1
  clear r1 HX hB1
  by_cases hge : n1 ≤ L
  · have hz : Hid (x / 2 ^ n = 0) := Lib.hid (shr_gone hR1.count HLr.out hge)
    go_wp2
    go_ret
    exact ⟨none, 0, 0, rfl, Nat.le_refl _, fun _ => rfl, by rw [hz.out, digs_zero]; exact Rd.nil _ _ _ _ _, Below.refl _ _⟩
  · have hlt : L < n1 := by omega
    obtain ⟨b, off, rfl, hb, _⟩ := hR1.cell 0 (by omega)
    obtain ⟨m, hm⟩ : ∃ m, n1 - L = m := ⟨_, rfl⟩
    have hA : Rd .u64 W64 w.heap.size w (some ⟨b, off + L, none⟩) m ((digs W64 x).drop L) :=
      ⟨by rw [List.length_drop, hR1.count, hm], fun i hi => by rw [nth_drop]; exact digs_word two_le_W64 _ _, fun i hi => by
        have := hR1.at (L + i) (by omega)
        exact ⟨b, off + L, rfl, this.1, by rw [nth_drop, Nat.add_assoc]; exact this.2⟩⟩
    clear hge
    go_wp2_with (at_make; refine wpl_make_nums Tryz.numTy64 rfl _ _ rfl _ _ _ _ m rfl rfl (by omega) (by omega) (by omega) (by omega) ?_)
    intro w1 hrow hgrow
    have hb1 : Below w.heap.size w w1 := (Below.refl _ _).grown hgrow (Nat.le_refl _) (fun k hk => by simp at hk)
    have hA1 := hA.below hb1
    obtain ⟨g, hg⟩ : ∃ g, g = w.heap.size := ⟨_, rfl⟩
    rw [← hg] at hrow hA1 ⊢
    have HG := Lib.hid hg
    have hgw := hrow.lt
    have hgs : g ≤ w1.heap.size := by omega
    have hB : w.heap.size ≤ g := by rw [HG.out]; exact Nat.le_refl _
    have hm1 : m ≤ 1000000 := by omega
    have HM := Lib.hid hm
    obtain ⟨A, hAe⟩ : ∃ A, A = (digs W64 x).drop L := ⟨_, rfl⟩
    rw [← hAe] at hA hA1
    have HA := Lib.hid hAe
    clear hgrow hg hm hAe hR1
    go_wp2_with fail
    go_loopw [8, 9] (fun c i wr => ∃ (k : Nat) (f' : Nat → Value), k ≤ m ∧ i = .int .i64 (k - 1) ∧ c = .int .u64 ((nth A k * 2 ^ (64 - r) % W64 : Nat) : Int) ∧ Row wr g 53 m f' ∧ Hid (∀ j, k ≤ j → j < m → f' j = .int .u64 ((outd A r j : Nat) : Int)) ∧ w1.grownBy wr (some g)) (fun _ i _ => (intOf i + 1).toNat)
    case atStart => exact ⟨m, _, Nat.le_refl _, rfl, by rw [nth_past A m (by rw [hA.count]; exact Nat.le_refl _), Nat.zero_mul, Nat.zero_mod]; rfl, hrow, Lib.hid (fun j a b => by omega), World.grownBy.refl _ _⟩
    case round =>
      obtain ⟨k, f', hk, rfl, rfl, hr, hf, hgr⟩ := hrel
      by_cases h0 : 0 < k
      · obtain ⟨_, hcx⟩ := (hA1.grown hgr (Nat.le_refl _) hgs).at (k - 1) (by omega)
        have ht := hA1.word (k - 1) (by omega)
        obtain ⟨t, het⟩ : ∃ t, t = nth A (k - 1) := ⟨_, rfl⟩
        obtain ⟨c, hc⟩ : ∃ c, c = nth A k * 2 ^ (64 - r) % W64 := ⟨_, rfl⟩
        rw [← het] at hcx ht
        rw [← hc]
        have e1 := or_expr (t := t) (r := r) (c := c) (by omega) ht (by rw [hc]; exact low_div _ _ (by omega)) (by rw [hc]; exact Nat.mod_lt _ W64_pos)
        have e2 := wrap_expr t (64 - r)
        obtain ⟨s, hs⟩ : ∃ s, s = t / 2 ^ r + c := ⟨_, rfl⟩
        obtain ⟨d, hd⟩ : ∃ d, d = t * 2 ^ (64 - r) % W64 := ⟨_, rfl⟩
        rw [← hs] at e1
        rw [← hd] at e2
        have H1 : Hid (s = outd A r (k - 1)) := Lib.hid (by unfold outd; rw [show k - 1 + 1 = k by omega, ← het, ← hc, hs])
        have H2 : Hid (d = nth A (k - 1) * 2 ^ (64 - r) % W64) := Lib.hid (by rw [hd, het])
        have H3 : Hid (∀ j, k - 1 ≤ j → j < m → (if j = k - 1 then Value.int .u64 (s : Int) else f' j) = .int .u64 ((outd A r j : Nat) : Int)) := Lib.hid (fun j a b => by
          by_cases hj : j = k - 1
          · rw [if_pos hj, hj, H1.out]
          · rw [if_neg hj]; exact hf.out j (by omega) b)
        have hfr := hr.free (k - 1)
        have hcl := hr.cell (k - 1) (by omega)
        have hk1 : 0 ≤ (k : Int) - 1 := by omega
        have hk2 : ((k : Int) - 1).toNat = k - 1 := by omega
        have hk3 : (k : Int) - 1 < m := by omega
        have H6 := hr.set (k - 1) (.int .u64 (s : Int))
        clear hs hd hc het ht hf H1 hr hA
        go_wp2
        go_roundw
        case rel => exact ⟨k - 1, _, by omega, by go_num, by rw [← H2.out], H6, H3, grown_trans hgr (grown_set _ _ _ _)⟩
        case measure => simp [intOf]; omega
      · obtain rfl : k = 0 := by omega
        obtain ⟨out, ho⟩ : ∃ out, out = (List.range m).map (outd A r) := ⟨_, rfl⟩
        have hol : Hid (out.length = m) := Lib.hid (by rw [ho]; simp)
        have hon : ∀ j, j < m → nth out j = outd A r j := fun j hj => by rw [ho]; simp [nth, hj]
        have hrd : Rd .u64 W64 _ _ (some ⟨g, 0, none⟩) m out := hr.rd 0 m out hr.lt (by omega) hol.out (fun i hi => by
          rw [hon i hi]; exact outd_word _ _ _ (by omega) (hA.word i hi)) (fun i hi => by rw [Nat.zero_add, hon i hi]; exact hf.out i (Nat.zero_le _) hi)
        have hval : Hid (val W64 out = x / 2 ^ n) := Lib.hid (by
          rw [← hrd.vl, shr_whole A out r m (by omega) hA.count hon, hA.vl, HA.out, ← val_div _ _ (fun i _ => digs_word two_le_W64 _ _) W64_pos, val_digs two_le_W64, shr_split HLr.out Hrr.out])
        have hbel := hb1.grown hgr hb1.size (fun j hj => by simp at hj; omega)
        clear hon ho hf hr
        go_wp2_with fail
        refine (trim_val _ m _ out _ (Nat.le_refl _) hm1 hrd).mono ?_
        rintro e w' ⟨q, l, rfl, hl, hq, hR, rfl⟩
        rw [hval.out] at hR
        go_wp2
        go_ret
        exact ⟨q, l, l, rfl, Nat.le_refl _, hq, hR, hbel⟩

theorem natShr_any {B1 : Nat} (p1 : Option Addr) (l1 c1 n : Nat) (N : Int) (xs : List Nat) (w : World) (h1 : l1 ≤ c1) (k1 : l1 ≤ 1000000)
    (r1 : Rd .u64 W64 B1 w p1 l1 xs) (hB1 : B1 ≤ w.heap.size) (hN : N = n ∨ N < 0 ∧ n = 0) (hN2 : N ≤ 9223372036854775807) :
    Calls Tryz.prog 57 #[.slice p1 l1 c1, .int .i64 N] w (Gives .u64 W64 w (val W64 xs / 2 ^ n)) :=
  natShr_core p1 l1 c1 n (n / 64) (n % 64) N xs w h1 k1 r1 hB1 hN hN2 rfl rfl
end Go.Proofs.YtndcaajebomkhaaGreatDoor
