/- The document's own answers for layer 1: Shl and Shr of any digits. -/
import Derived.Test.YtafmoonfnkcpoaaDoorRefD
namespace Go.Proofs.YtafmoonfnkcpoaaDoor
open Go.RowKit

theorem shl_digits {X n L r : Nat} (ys : List Nat) (hL : n / 16 = L) (hr : n % 16 = r) (h : val 65536 ys = X * 2 ^ r) : val 65536 (List.replicate L 0 ++ ys) = X * 2 ^ n := by
  have e1 : 2 ^ n = 65536 ^ L * 2 ^ r := by
    rw [show (65536 : Nat) = 2 ^ 16 from by decide, ← Nat.pow_mul, ← Nat.pow_add]; congr 1; omega
  unfold val
  rw [List.length_append, List.length_replicate, vl_add, vl_congr (xs := List.replicate L 0 ++ ys) (ys := List.replicate L 0) (fun i hi => nth_append_lt _ _ _ (by rw [List.length_replicate]; exact hi)), vl_replicate, Nat.zero_add,
    List.drop_append_of_le_length (by rw [List.length_replicate]; exact Nat.le_refl _), List.drop_of_length_le (by rw [List.length_replicate]; exact Nat.le_refl _), List.nil_append]
  have h' : vl 65536 ys ys.length = X * 2 ^ r := h
  rw [h', e1, Nat.mul_left_comm]

theorem times_len {x k P : Nat} (hx : x < 65536 ^ k) (hP : P < 65536) : (digs 65536 (x * P)).length ≤ k + 1 := by
  refine (digs_length_le (by omega) _ _).2 ?_
  rw [Nat.pow_succ]
  exact Nat.mul_lt_mul'' hx hP

set_option maxHeartbeats 2000000 in
theorem refShl_any {B1 : Nat} (p1 : Option Addr) (l1 c1 n L r : Nat) (xs : List Nat) (w : World) (h1 : l1 ≤ c1) (k1 : l1 ≤ 100000)
    (r1 : Rd .u32 65536 B1 w p1 l1 xs) (hB1 : B1 ≤ w.heap.size) (hn : n ≤ 65536) (hL : n / 16 = L) (hr : n % 16 = r) :
    Calls Tryd.prog 22 #[.slice p1 l1 c1, .int .i64 (n : Int)] w (Gives .u32 65536 w (val 65536 xs * 2 ^ n)) := by
  replace r1 := r1.mono hB1
  have hq1 : (n : Int) / 16 = (L : Int) := by omega
  have hq2 : (n : Int) % 16 = (r : Int) := by omega
  have hr16 : r < 16 := by omega
  have hL16 : L ≤ 4096 := by omega
  have HLr := Lib.hid hL
  have Hrr := Lib.hid hr
  clear hL hr hB1
  go_enter Tryd.func22, Tryd.ntmps22
  go_wp2_with (at_make; refine wpl_make_own Tryd.numTy32 rfl _ _ rfl w.heap.size _ _ _ _ L rfl rfl (by omega) (by omega) (by omega) (by omega) (Nat.le_refl _) ?_)
  intro w1 hown hgrow
  have hb1 : Below w.heap.size w w1 := (Below.refl _ _).grown hgrow (Nat.le_refl _) (fun k hk => by simp at hk)
  have R1 := r1.next hb1
  clear hgrow r1
  go_wp2_with fail
  go_loop [6, 7] (fun p i => ∃ (j P : Nat), j ≤ r ∧ i = .int .i64 j ∧ p = .int .u32 P ∧ P ≤ 32768 ∧ Hid (P = 2 ^ j)) (fun _ i => r - (intOf i).toNat)
  case atStart => exact ⟨0, 1, Nat.zero_le _, rfl, rfl, by omega, Lib.hid rfl⟩
  case round =>
    obtain ⟨j, P, hj, rfl, rfl, hP, hPj⟩ := hrel
    by_cases hlt : j < r
    · have hP2 : 2 * P ≤ 32768 := by
        have h := hPj.out
        have h2 : 2 ^ (j + 1) ≤ 2 ^ 15 := Nat.pow_le_pow_right (by omega) (by omega)
        rw [Nat.pow_succ] at h2
        have h3 : (2 : Nat) ^ 15 = 32768 := by decide
        omega
      have H1 : Hid (2 * P = 2 ^ (j + 1)) := Lib.hid (by rw [hPj.out, Nat.pow_succ, Nat.mul_comm])
      clear hPj
      go_wp2
      go_round
      case rel => exact ⟨j + 1, 2 * P, by omega, by go_num, by go_num, hP2, H1⟩
      case measure => simp [intOf]; omega
    · obtain rfl : j = r := by omega
      clear hlt
      go_wp2_with fail
      have hal : ∀ o, Below w1.heap.size w1 (w1.alloc o) := fun o => (Below.refl _ _).alloc (Nat.le_refl _) o
      have rone : ∀ W, W = w1.alloc (.cells #[.int .u32 (P : Int)] 47) → Rd .u32 65536 W.heap.size W (some ⟨w1.heap.size, 0, none⟩) 1 [P] := by
        rintro W rfl
        refine ⟨rfl, fun i hi => ?_, fun i hi => ?_⟩
        · obtain rfl : i = 0 := by omega
          rw [nth_cons_zero]; omega
        · obtain rfl : i = 0 := by omega
          exact ⟨_, _, rfl, by simp, by rw [nth_cons_zero]; simp [go_sem]⟩
      obtain ⟨W2, hW2⟩ : ∃ W2, W2 = w1.alloc (.cells #[.int .u32 (P : Int)] 47) := ⟨_, rfl⟩
      have ro := rone W2 hW2
      have hbW : Below w1.heap.size w1 W2 := by rw [hW2]; exact hal _
      rw [← hW2]
      replace R1 := R1.next hbW
      replace hown := owns_below hown hbW (Nat.le_refl _)
      replace hb1 := below_next hb1 hbW
      clear hW2 rone hal hbW
      refine (refMul_any p1 _ l1 1 c1 1 xs [P] W2 h1 (by omega) (by omega) (by omega) R1 ro (Nat.le_refl _) (Nat.le_refl _)).mono ?_
      rw [show val 65536 [P] = P by simp [val_cons, val_nil]]
      rintro e w3 ⟨q, m, c, rfl, hmc, hq, hR, hb⟩
      replace hown := owns_below hown hb (Nat.le_refl _)
      replace hb1 := below_next hb1 hb
      have hm : m ≤ l1 + 1 := by
        rw [← hR.count]
        exact times_len (R1.val_lt (by omega) (Nat.le_refl l1)) (by omega)
      have HS := Lib.hid hb1.size
      clear hb R1 ro
      go_wp2_with (at_builtin; refine wpl_append_nums Tryd.numTy32 rfl _ _ rfl w.heap.size L _ (List.replicate L 0) rfl hown q m c _ rfl hR (by assumption) (by omega) (by omega) HS.out ?_)
      intro q' c' w4 hown' hgrow
      have hb4 : Below w.heap.size w w4 := hb1.grown hgrow HS.out (fun k hk => (hown.lt k hk).1)
      have hrd := owns_rd (β := 65536) hown' (Nat.le_refl _) (fun i hi => by
        by_cases h : i < L
        · rw [nth_append_lt _ _ _ (by rw [List.length_replicate]; exact h), nth_replicate]; split <;> omega
        · rw [nth_append_ge _ _ _ (by rw [List.length_replicate]; omega)]; exact digs_word (by omega) _ _)
      have hval : Hid (val 65536 (List.replicate L 0 ++ digs 65536 (val 65536 xs * P)) = val 65536 xs * 2 ^ n) := Lib.hid (shl_digits _ HLr.out Hrr.out (by rw [val_digs (by omega), hPj.out]))
      have hnil := Lib.hid (owns_nil hown')
      have hroom := owns_room hown'
      clear hown hown' hgrow hR hb1 hPj
      go_wp2_with fail
      refine (refTrim_val q' _ c' _ w4 hroom (by omega) hrd).mono ?_
      rintro e w' ⟨m', rfl, hm', hR', rfl⟩
      rw [hval.out] at hR'
      go_wp2
      go_ret
      exact ⟨q', m', c', rfl, by omega, hnil.out, hR', hb4⟩

/-! Plain mathematics: halved digit by digit, from the top. -/
theorem half_step {k m low low' s d e : Nat} (D zs : List Nat) (hk : 0 < k) (hkm : k ≤ m) (hl : zs.length = m) (hs : s = low * 65536 + d) (hd : d = nth D (k - 1)) (he : e = s / 2) (hlow : low' = s % 2)
    (h : vl 65536 (D.drop k) (m - k) = 2 * vl 65536 (zs.drop k) (m - k) + low) :
    vl 65536 (D.drop (k - 1)) (m - (k - 1)) = 2 * vl 65536 ((zs.set (k - 1) e).drop (k - 1)) (m - (k - 1)) + low' := by
  have e1 : m - (k - 1) = (m - k) + 1 := by omega
  have e2 : vl 65536 ((zs.set (k - 1) e).drop k) (m - k) = vl 65536 (zs.drop k) (m - k) := vl_congr (fun i _ => by rw [nth_drop, nth_drop, nth_set _ _ _ _ (by omega), if_neg (by omega)])
  rw [e1, vl_first, vl_first, show k - 1 + 1 = k by omega, e2, nth_set _ _ _ _ (by omega), if_pos rfl, h, ← hd]
  omega

theorem shr_digits {X n L r : Nat} (hL : n / 16 = L) (hr : n % 16 = r) : X / 65536 ^ L / 2 ^ r = X / 2 ^ n := by
  rw [Nat.div_div_eq_div_mul, show (65536 : Nat) = 2 ^ 16 from by decide, ← Nat.pow_mul, ← Nat.pow_add]; congr 2; omega
theorem shr_digits_gone {X n L m : Nat} (hX : X < 65536 ^ m) (hL : n / 16 = L) (h : m ≤ L) : X / 2 ^ n = 0 := by
  apply Nat.div_eq_of_lt
  refine Nat.lt_of_lt_of_le hX ?_
  rw [show (65536 : Nat) = 2 ^ 16 from by decide, ← Nat.pow_mul]
  exact Nat.pow_le_pow_right (by omega) (by omega)

set_option maxHeartbeats 4000000 in
theorem refShr_any {B1 : Nat} (p1 : Option Addr) (l1 c1 n L r : Nat) (xs : List Nat) (w : World) (h1 : l1 ≤ c1) (k1 : l1 ≤ 900000)
    (r1 : Rd .u32 65536 B1 w p1 l1 xs) (hB1 : B1 ≤ w.heap.size) (hn : n ≤ 9223372036854775807) (hL : n / 16 = L) (hr : n % 16 = r) :
    Calls Tryd.prog 21 #[.slice p1 l1 c1, .int .i64 (n : Int)] w (Gives .u32 65536 w (val 65536 xs / 2 ^ n)) := by
  replace r1 := r1.mono hB1
  have hq1 : (n : Int) / 16 = (L : Int) := by omega
  have hq2 : (n : Int) % 16 = (r : Int) := by omega
  have hr16 : r < 16 := by omega
  have hLn : L ≤ n := by omega
  have HLr := Lib.hid hL
  have Hrr := Lib.hid hr
  clear hL hr hB1
  go_enter Tryd.func21, Tryd.ntmps21
  by_cases hge : l1 ≤ L
  · have hz : Hid (val 65536 xs / 2 ^ n = 0) := Lib.hid (shr_digits_gone (r1.val_lt (by omega) (Nat.le_refl l1)) HLr.out hge)
    go_wp2
    go_ret
    exact ⟨none, 0, 0, rfl, Nat.le_refl _, fun _ => rfl, by rw [hz.out, digs_zero]; exact Rd.nil _ _ _ _ _, Below.refl _ _⟩
  · have hlt : L < l1 := by omega
    obtain ⟨b, off, rfl, hb, _⟩ := r1.cell 0 (by omega)
    obtain ⟨m, hm⟩ : ∃ m, l1 - L = m := ⟨_, rfl⟩
    obtain ⟨A, hAe⟩ : ∃ A, A = xs.drop L := ⟨_, rfl⟩
    have hA : Rd .u32 65536 w.heap.size w (some ⟨b, off + L, none⟩) m A :=
      ⟨by rw [hAe, List.length_drop, r1.count, hm], fun i hi => by rw [hAe, nth_drop]; exact r1.words (by omega) _, fun i hi => by
        have := r1.at (L + i) (by omega)
        exact ⟨b, off + L, rfl, this.1, by rw [hAe, nth_drop, Nat.add_assoc]; exact this.2⟩⟩
    have hval : Hid (val 65536 A / 2 ^ r = val 65536 xs / 2 ^ n) := Lib.hid (by
      rw [hAe, ← val_div _ _ (fun i _ => r1.words (by omega) i) (by omega), shr_digits HLr.out Hrr.out])
    have hm0 : 0 < m := by omega
    have hm1 : m ≤ 900000 := by omega
    have hcL : L < c1 := by omega
    clear hge hAe
    go_wp2_with (at_builtin; refine wpl_append_nums Tryd.numTy32 rfl _ _ rfl w.heap.size 0 _ [] rfl (World.ownsRow_made (base := w.heap.size) w #[] 0 (Nat.le_refl _) (by omega) rfl) (some ⟨b, off + L, none⟩) m (c1 - L) A rfl (hA.below ((Below.refl _ _).alloc (Nat.le_refl _) _)) (fun h => by simp at h) (by omega) (by omega) (by simp) ?_)
    intro q c w1 hown hgrow
    have hb1 : Below w.heap.size w w1 := ((Below.refl _ _).alloc (Nat.le_refl _) _).grown hgrow (by simp) (fun k hk => by simp [Value.ownBlock] at hk; omega)
    have hown2 : w1.ownsRow w.heap.size 47 1 (.slice q m c) m (ints .u32 A) := hown
    obtain ⟨g, c', he, hg, hmc, _⟩ := owns_shape hown2 hm0
    simp only [Value.slice.injEq, true_and] at he
    obtain ⟨rfl, rfl⟩ := he
    obtain ⟨f, hrow, hf⟩ := owns_row hown2
    have hF : Hid (∀ i, i < m → f i = .int .u32 ((nth A i : Nat) : Int)) := Lib.hid (fun i hi => by
      have := hf i hi
      rw [ints_at _ _ _ (by rw [hA.count]; exact hi)] at this
      simpa using this)
    have hgw := hrow.lt
    have HAl : Hid (A.length = m) := Lib.hid hA.count
    have HAw : Hid (∀ i, nth A i < 65536) := Lib.hid (hA.words (by omega))
    clear hown hown2 hf hgrow hA r1
    go_wp2_with fail
    go_loopw [6] (fun i wr => ∃ (j : Nat) (zs : List Nat) (f' : Nat → Value), j ≤ r ∧ i = .int .i64 j ∧ Hid (zs.length = m) ∧ Hid (∀ i, nth zs i < 65536) ∧ Row wr g 47 c f' ∧ Hid (∀ i, i < m → f' i = .int .u32 ((nth zs i : Nat) : Int)) ∧
        Hid (val 65536 zs = val 65536 A / 2 ^ j) ∧ w1.grownBy wr (some g)) (fun i _ => r - (intOf i).toNat)
    case atStart => exact ⟨0, A, f, Nat.zero_le _, rfl, HAl, HAw, hrow, hF, Lib.hid (by rw [Nat.pow_zero, Nat.div_one]), World.grownBy.refl _ _⟩
    case round =>
      obtain ⟨j, D, f0, hj, rfl, hDl, hDw, hr0, hf0, hDv, hgr0⟩ := hrel
      by_cases hjr : j < r
      · go_wp2_with fail
        go_loopw [7, 8] (fun lw i wr => ∃ (k low : Nat) (zs : List Nat) (f' : Nat → Value), k ≤ m ∧ i = .int .i64 (k - 1) ∧ lw = .int .u32 low ∧ low < 2 ∧ Hid (zs.length = m) ∧ Hid (∀ i, nth zs i < 65536) ∧ Row wr g 47 c f' ∧ Hid (∀ i, i < m → f' i = .int .u32 ((nth zs i : Nat) : Int)) ∧
            Hid (∀ i, i < k → nth zs i = nth D i) ∧ Hid (vl 65536 (D.drop k) (m - k) = 2 * vl 65536 (zs.drop k) (m - k) + low) ∧ w1.grownBy wr (some g)) (fun _ i _ => (intOf i + 1).toNat)
        case atStart => exact ⟨m, 0, D, f0, Nat.le_refl _, by go_num, rfl, by omega, hDl, hDw, hr0, hf0, Lib.hid (fun i _ => rfl), Lib.hid (by rw [Nat.sub_self, vl_zero]), hgr0⟩
        case round =>
          clear hr0 hf0 hgr0
          obtain ⟨k, low, zs, f', hk, rfl, rfl, hlow, hzl, hzw, hr1, hf1, hsame, hv, hgr⟩ := hrel
          by_cases h0 : 0 < k
          · have hc := hr1.cell (k - 1) (by omega)
            rw [hf1.out _ (by omega), hsame.out _ (by omega)] at hc
            have hfr := hr1.free (k - 1)
            obtain ⟨d, hd⟩ : ∃ d, d = nth D (k - 1) := ⟨_, rfl⟩
            have hdw : d < 65536 := by rw [hd]; exact hDw.out _
            rw [← hd] at hc
            obtain ⟨s, hs⟩ : ∃ s, s = low * 65536 + d := ⟨_, rfl⟩
            obtain ⟨e, he⟩ : ∃ e, e = s / 2 := ⟨_, rfl⟩
            obtain ⟨low', hlow'⟩ : ∃ low', low' = s % 2 := ⟨_, rfl⟩
            have e1 : ((low : Int) * 65536 + d) / 2 = (e : Int) := by omega
            have e2 : ((low : Int) * 65536 + d) % 2 = (low' : Int) := by omega
            have hk1 : 0 ≤ (k : Int) - 1 := by omega
            have hk2 : ((k : Int) - 1).toNat = k - 1 := by omega
            have hk3 : (k : Int) - 1 < m := by omega
            have hlen : k - 1 < zs.length := by rw [hzl.out]; omega
            have H0 : low' < 2 := by omega
            have heb : e < 65536 := by omega
            have H1 : Hid ((zs.set (k - 1) e).length = m) := Lib.hid (by rw [List.length_set]; exact hzl.out)
            have H2 : Hid (∀ i, nth (zs.set (k - 1) e) i < 65536) := Lib.hid (fun i => by
              rw [nth_set _ _ _ _ hlen]; split
              · exact heb
              · exact hzw.out i)
            have H3 : Hid (∀ i, i < m → (if i = k - 1 then Value.int .u32 (e : Int) else f' i) = .int .u32 ((nth (zs.set (k - 1) e) i : Nat) : Int)) := Lib.hid (fun i hi => by
              rw [nth_set _ _ _ _ hlen]
              by_cases h : i = k - 1
              · rw [if_pos h, if_pos h]
              · rw [if_neg h, if_neg h]; exact hf1.out i hi)
            have H4 : Hid (∀ i, i < k - 1 → nth (zs.set (k - 1) e) i = nth D i) := Lib.hid (fun i hi => by
              rw [nth_set _ _ _ _ hlen, if_neg (by omega)]; exact hsame.out i (by omega))
            have H5 : Hid (vl 65536 (D.drop (k - 1)) (m - (k - 1)) = 2 * vl 65536 ((zs.set (k - 1) e).drop (k - 1)) (m - (k - 1)) + low') := Lib.hid (half_step D zs h0 hk hzl.out hs hd he hlow' hv.out)
            have H6 := hr1.set (k - 1) (.int .u32 (e : Int))
            have hcl := hr1.cell (k - 1) (by omega)
            clear hs hd he hlow' hv hsame hf1 hzw hzl hlen hr1 hcl
            go_wp2
            go_roundw
            case rel => exact ⟨k - 1, low', zs.set (k - 1) e, _, by omega, by go_num, (by first | rfl | exact congrArg (Value.int .u32) e2), H0, H1, H2, H6, H3, H4, H5, grown_trans hgr (grown_set _ _ _ _)⟩
            case measure => simp [intOf]; omega
          · obtain rfl : k = 0 := by omega
            have H1 : Hid (val 65536 zs = val 65536 A / 2 ^ (j + 1)) := Lib.hid (by
              have h := hv.out
              rw [List.drop_zero, List.drop_zero, Nat.sub_zero] at h
              have a : vl 65536 D m = val 65536 D := vl_past _ _ (by rw [hDl.out]; exact Nat.le_refl _)
              have b : vl 65536 zs m = val 65536 zs := vl_past _ _ (by rw [hzl.out]; exact Nat.le_refl _)
              rw [a, b, hDv.out] at h
              rw [Nat.pow_succ, ← Nat.div_div_eq_div_mul, h]
              omega)
            clear hv hsame
            go_wp2
            go_roundw
            case rel => exact ⟨j + 1, zs, f', by omega, by go_num, hzl, hzw, hr1, hf1, H1, hgr⟩
            case measure => simp [intOf]; omega
      · obtain rfl : j = r := by omega
        have hrd : Rd .u32 65536 _ _ (some ⟨g, 0, none⟩) m D := hr0.rd 0 m D hr0.lt (by omega) hDl.out (fun i _ => hDw.out i) (fun i hi => by rw [Nat.zero_add]; exact hf0.out i hi)
        have hval2 : Hid (val 65536 D = val 65536 xs / 2 ^ n) := Lib.hid (by rw [hDv.out, hval.out])
        have hbel := hb1.grown hgr0 hb1.size (fun k hk => by simp at hk; omega)
        clear hDv hDw hDl hf0 hr0 hjr
        go_wp2_with fail
        refine (refTrim_val _ m c D _ hmc (by omega) hrd).mono ?_
        rintro e w' ⟨l, rfl, hl, hR, rfl⟩
        rw [hval2.out] at hR
        go_wp2
        go_ret
        exact ⟨_, l, c, rfl, by omega, fun h => by simp at h, hR, hbel⟩
end Go.Proofs.YtafmoonfnkcpoaaDoor
