/- The document's own answers for layer 1: Shl and Shr of any digits. -/
import Derived.Test.YtknkakkdhihngaaRefD
namespace Go.Proofs.Ytknkakkdhihngaa
open Go.RowKit

theorem shl_digits {X n L r : Nat} (ys : List Nat) (hL : n / 16 = L) (hr : n % 16 = r) (h : val 65536 ys = X * 2 ^ r) : val 65536 (List.replicate L 0 ++ ys) = X * 2 ^ n := by
  have e1 : 2 ^ n = 65536 ^ L * 2 ^ r := by
    rw [show (65536 : Nat) = 2 ^ 16 from by decide, ← Nat.pow_mul, ← Nat.pow_add]; congr 1; omega
  unfold val
  rw [List.length_append, List.length_replicate, vl_add, vl_congr (xs := List.replicate L 0 ++ ys) (ys := List.replicate L 0) (fun i hi => nth_append_lt _ _ _ (by rw [List.length_replicate]; exact hi)), vl_replicate, Nat.zero_add,
    List.drop_append_of_le_length (by rw [List.length_replicate]; exact Nat.le_refl _), List.drop_of_length_le (by rw [List.length_replicate]; exact Nat.le_refl _), List.nil_append]
  have h' : vl 65536 ys ys.length = X * 2 ^ r := h
  rw [h', e1, Nat.mul_left_comm]

theorem times_len {x k P : Nat} (hx : x < 65536 ^ k) (hP : P < 65536) : (digs 65536 (x * P)).length ≤ k + 1 := by
  refine (digs_length_le (by omega) _ _).2 ?_
  rw [Nat.pow_succ]
  exact Nat.mul_lt_mul'' hx hP

set_option maxHeartbeats 2000000 in
theorem refShl_any {B1 : Nat} (p1 : Option Addr) (l1 c1 n L r : Nat) (xs : List Nat) (w : World) (h1 : l1 ≤ c1) (k1 : l1 ≤ 100000)
    (r1 : Rd .u32 65536 B1 w p1 l1 xs) (hB1 : B1 ≤ w.heap.size) (hn : n ≤ 65536) (hL : n / 16 = L) (hr : n % 16 = r) :
    Calls Try.prog 32 #[.slice p1 l1 c1, .int .i64 (n : Int)] w (Gives .u32 65536 w (val 65536 xs * 2 ^ n)) := by
  replace r1 := r1.mono hB1
  have hq1 : (n : Int) / 16 = (L : Int) := by omega
  have hq2 : (n : Int) % 16 = (r : Int) := by omega
  have hr16 : r < 16 := by omega
  have hL16 : L ≤ 4096 := by omega
  have HLr := Lib.hid hL
  have Hrr := Lib.hid hr
  clear hL hr hB1
  go_enter Try.func32, Try.ntmps32
  go_wp2_with (at_make; refine wpl_make_own Try.numTy32 rfl _ _ rfl w.heap.size _ _ _ _ L rfl rfl (by omega) (by omega) (by omega) (by omega) (Nat.le_refl _) ?_)
  intro w1 hown hgrow
  have hb1 : Below w.heap.size w w1 := (Below.refl _ _).grown hgrow (Nat.le_refl _) (fun k hk => by simp at hk)
  have R1 := r1.next hb1
  clear hgrow r1
  go_wp2_with fail
  go_loop [6, 7] (fun p i => ∃ (j P : Nat), j ≤ r ∧ i = .int .i64 j ∧ p = .int .u32 P ∧ P ≤ 32768 ∧ Hid (P = 2 ^ j)) (fun _ i => r - (intOf i).toNat)
  case atStart => exact ⟨0, 1, Nat.zero_le _, rfl, rfl, by omega, Lib.hid rfl⟩
  case round =>
    obtain ⟨j, P, hj, rfl, rfl, hP, hPj⟩ := hrel
    by_cases hlt : j < r
    · have hP2 : 2 * P ≤ 32768 := by
        have h := hPj.out
        have h2 : 2 ^ (j + 1) ≤ 2 ^ 15 := Nat.pow_le_pow_right (by omega) (by omega)
        rw [Nat.pow_succ] at h2
        have h3 : (2 : Nat) ^ 15 = 32768 := by decide
        omega
      have H1 : Hid (2 * P = 2 ^ (j + 1)) := Lib.hid (by rw [hPj.out, Nat.pow_succ, Nat.mul_comm])
      clear hPj
      go_wp2
      go_round
      case rel => exact ⟨j + 1, 2 * P, by omega, by go_num, by go_num, hP2, H1⟩
      case measure => simp [intOf]; omega
    · obtain rfl : j = r := by omega
      clear hlt
      go_wp2_with fail
      have hal : ∀ o, Below w1.heap.size w1 (w1.alloc o) := fun o => (Below.refl _ _).alloc (Nat.le_refl _) o
      have rone : ∀ W, W = w1.alloc (.cells #[.int .u32 (P : Int)] 65) → Rd .u32 65536 W.heap.size W (some ⟨w1.heap.size, 0, none⟩) 1 [P] := by
        rintro W rfl
        refine ⟨rfl, fun i hi => ?_, fun i hi => ?_⟩
        · obtain rfl : i = 0 := by omega
          rw [nth_cons_zero]; omega
        · obtain rfl : i = 0 := by omega
          exact ⟨_, _, rfl, by simp, by rw [nth_cons_zero]; simp [go_sem]⟩
      obtain ⟨W2, hW2⟩ : ∃ W2, W2 = w1.alloc (.cells #[.int .u32 (P : Int)] 65) := ⟨_, rfl⟩
      have ro := rone W2 hW2
      have hbW : Below w1.heap.size w1 W2 := by rw [hW2]; exact hal _
      rw [← hW2]
      replace R1 := R1.next hbW
      replace hown := owns_below hown hbW (Nat.le_refl _)
      replace hb1 := below_next hb1 hbW
      clear hW2 rone hal hbW
      refine (refMul_any p1 _ l1 1 c1 1 xs [P] W2 h1 (by omega) (by omega) (by omega) R1 ro (Nat.le_refl _) (Nat.le_refl _)).mono ?_
      rw [show val 65536 [P] = P by simp [val_cons, val_nil]]
      rintro e w3 ⟨q, m, c, rfl, hmc, hq, hR, hb⟩
      replace hown := owns_below hown hb (Nat.le_refl _)
      replace hb1 := below_next hb1 hb
      have hm : m ≤ l1 + 1 := by
        rw [← hR.count]
        exact times_len (R1.val_lt (by omega) (Nat.le_refl l1)) (by omega)
      have HS := Lib.hid hb1.size
      clear hb R1 ro
      go_wp2_with (at_builtin; refine wpl_append_nums Try.numTy32 rfl _ _ rfl w.heap.size L _ (List.replicate L 0) rfl hown q m c _ rfl hR (by assumption) (by omega) (by omega) HS.out ?_)
      intro q' c' w4 hown' hgrow
      have hb4 : Below w.heap.size w w4 := hb1.grown hgrow HS.out (fun k hk => (hown.lt k hk).1)
      have hrd := owns_rd (β := 65536) hown' (Nat.le_refl _) (fun i hi => by
        by_cases h : i < L
        · rw [nth_append_lt _ _ _ (by rw [List.length_replicate]; exact h), nth_replicate]; split <;> omega
        · rw [nth_append_ge _ _ _ (by rw [List.length_replicate]; omega)]; exact digs_word (by omega) _ _)
      have hval : Hid (val 65536 (List.replicate L 0 ++ digs 65536 (val 65536 xs * P)) = val 65536 xs * 2 ^ n) := Lib.hid (shl_digits _ HLr.out Hrr.out (by rw [val_digs (by omega), hPj.out]))
      have hnil := Lib.hid (owns_nil hown')
      have hroom := owns_room hown'
      clear hown hown' hgrow hR hb1 hPj
      go_wp2_with fail
      refine (refTrim_val q' _ c' _ w4 hroom (by omega) hrd).mono ?_
      rintro e w' ⟨m', rfl, hm', hR', rfl⟩
      rw [hval.out] at hR'
      go_wp2
      go_ret
      exact ⟨q', m', c', rfl, by omega, hnil.out, hR', hb4⟩

/-! Plain mathematics: halved digit by digit, from the top. -/
theorem half_step {k m low low' s d e : Nat} (D zs : List Nat) (hk : 0 < k) (hkm : k ≤ m) (hl : zs.length = m) (hs : s = low * 65536 + d) (hd : d = nth D (k - 1)) (he : e = s / 2) (hlow : low' = s % 2)
    (h : vl 65536 (D.drop k) (m - k) = 2 * vl 65536 (zs.drop k) (m - k) + low) :
    vl 65536 (D.drop (k - 1)) (m - (k - 1)) = 2 * vl 65536 ((zs.set (k - 1) e).drop (k - 1)) (m - (k - 1)) + low' := by
  have e1 : m - (k - 1) = (m - k) + 1 := by omega
  have e2 : vl 65536 ((zs.set (k - 1) e).drop k) (m - k) = vl 65536 (zs.drop k) (m - k) := vl_congr (fun i _ => by rw [nth_drop, nth_drop, nth_set _ _ _ _ (by omega), if_neg (by omega)])
  rw [e1, vl_first, vl_first, show k - 1 + 1 = k by omega, e2, nth_set _ _ _ _ (by omega), if_pos rfl, h, ← hd]
  omega

theorem shr_digits {X n L r : Nat} (hL : n / 16 = L) (hr : n % 16 = r) : X / 65536 ^ L / 2 ^ r = X / 2 ^ n := by
  rw [Nat.div_div_eq_div_mul, show (65536 : Nat) = 2 ^ 16 from by decide, ← Nat.pow_mul, ← Nat.pow_add]; congr 2; omega
theorem shr_digits_gone {X n L m : Nat} (hX : X < 65536 ^ m) (hL : n / 16 = L) (h : m ≤ L) : X / 2 ^ n = 0 := by
  apply Nat.div_eq_of_lt
  refine Nat.lt_of_lt_of_le hX ?_
  rw [show (65536 : Nat) = 2 ^ 16 from by decide, ← Nat.pow_mul]
  exact Nat.pow_le_pow_right (by omega) (by omega)

end Go.Proofs.Ytknkakkdhihngaa
