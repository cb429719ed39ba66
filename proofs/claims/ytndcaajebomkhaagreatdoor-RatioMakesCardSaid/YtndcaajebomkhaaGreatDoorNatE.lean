/- Layer 1 (nat): carryUp and Add of any numbers. -/
import Derived.Test.YtndcaajebomkhaaGreatDoorNatD
namespace Go.Proofs.YtndcaajebomkhaaGreatDoor
open Go.RowKit

theorem vl_tail {β : Nat} (A X : List Nat) (c k n : Nat) (hk : k ≤ n) (h : vl β A k = vl β X k + c) (ht : ∀ i, k ≤ i → i < n → nth A i = nth X i) : vl β A n = vl β X n + c := by
  induction n with
  | zero => rw [show k = 0 by omega] at h; exact h
  | succ n ih =>
    by_cases hkn : k = n + 1
    · rw [hkn] at h; exact h
    · rw [vl_succ, vl_succ, ht n (by omega) (by omega)]
      have := ih (by omega) (fun i a b => ht i a (by omega))
      omega

/-- What carryUp leaves behind. -/
def CarriedUp (g e N : Nat) (f : Nat → Value) (off n : Nat) (xs : List Nat) (c : Nat) (w : World) (en : Ending) (w' : World) : Prop :=
  ∃ zs f' d, en = .returned (.tuple #[]) ∧ zs.length = n ∧ (∀ i, i < n → nth zs i < W64) ∧ Row w' g e N f' ∧ Part .u64 f f' off zs ∧
    vl W64 zs n + d * W64 ^ n = vl W64 xs n + c ∧ w.grownBy w' (some g)

set_option maxHeartbeats 1000000 in
theorem carryUp_any (g e N off n cap c : Nat) (f : Nat → Value) (xs : List Nat) (w : World) (hn : n ≤ 1000000) (hN : off + n ≤ N) (hc : c ≤ 1) (hl : xs.length = n)
    (hrow : Row w g e N f) (hxs : ∀ i, i < n → f (off + i) = .int .u64 ((nth xs i : Nat) : Int)) (hxw : ∀ i, i < n → nth xs i < W64) :
    Calls Tryz.prog 102 #[.slice (some ⟨g, off, none⟩) n cap, .int .u64 (c : Int)] w (CarriedUp g e N f off n xs c w) := by
  have HL := Lib.hid hl
  clear hl
  go_enter Tryz.func102, Tryz.ntmps102
  go_wp2
  go_loopw [1, 4] (fun c1 i wr => ∃ (k d : Nat) (zs : List Nat) (f' : Nat → Value), k ≤ n ∧ i = .int .i64 k ∧ c1 = .int .u64 d ∧ d ≤ 1 ∧ Hid (zs.length = k) ∧ Hid (∀ i, i < k → nth zs i < W64) ∧ Row wr g e N f' ∧ Part .u64 f f' off zs ∧
      Hid (vl W64 zs k + d * W64 ^ k = vl W64 xs k + c) ∧ w.grownBy wr (some g)) (fun _ i _ => n - (intOf i).toNat)
  case atStart => exact ⟨0, c, [], f, Nat.zero_le _, rfl, rfl, hc, Lib.hid rfl, Lib.hid (fun i hi => by omega), hrow, Part.none _ _ _, Lib.hid (by simp [vl]), World.grownBy.refl _ _⟩
  case round =>
    obtain ⟨k, d, zs, f', hk, rfl, rfl, hd, hzl, hzw, hr, hp, hv, hg⟩ := hrel
    have hd2 : d = 0 ∨ d = 1 := by omega
    rcases hd2 with rfl | rfl
    · have H1 : Hid ((zs ++ xs.drop k).length = n) := Lib.hid (by rw [List.length_append, List.length_drop, hzl.out, HL.out]; omega)
      have H2 : ∀ i, k ≤ i → nth (zs ++ xs.drop k) i = nth xs i := fun i hi => by
        rw [nth_append_ge _ _ _ (by rw [hzl.out]; exact hi), nth_drop, hzl.out]; congr 1; omega
      have H3 : ∀ i, i < k → nth (zs ++ xs.drop k) i = nth zs i := fun i hi => nth_append_lt _ _ _ (by rw [hzl.out]; exact hi)
      have H4 : Hid (∀ i, i < n → nth (zs ++ xs.drop k) i < W64) := Lib.hid (fun i hi => by
        by_cases hik : i < k
        · rw [H3 i hik]; exact hzw.out i hik
        · rw [H2 i (by omega)]; exact hxw i hi)
      have H5 : Part .u64 f f' off (zs ++ xs.drop k) := ⟨fun i hi => by
          rw [H1.out] at hi
          by_cases hik : i < k
          · rw [H3 i hik]; exact hp.new i (by rw [hzl.out]; exact hik)
          · rw [H2 i (by omega), hp.old _ (by right; rw [hzl.out]; omega)]; exact hxs i hi,
        fun j hj => hp.old j (by rw [H1.out] at hj; rw [hzl.out]; omega)⟩
      have H6 : Hid (vl W64 (zs ++ xs.drop k) n + 0 * W64 ^ n = vl W64 xs n + c) := Lib.hid (by
        have hv' := hv.out
        rw [Nat.zero_mul, Nat.add_zero] at hv' ⊢
        exact vl_tail _ _ _ k n hk (by rw [vl_congr (fun i hi => H3 i hi)]; exact hv') (fun i a _ => H2 i a))
      clear H2 H3 hv hzw hxs hxw hp
      go_wp2
      refine bodyPost_ret (results_none rfl _ _ _) rfl ?_
      exact ⟨_, f', 0, rfl, H1.out, H4.out, hr, H5, H6.out, hg⟩
    · by_cases hlt : k < n
      · have hcx := hr.cell (off + k) (by omega)
        rw [hp.old (off + k) (by right; rw [hzl.out]; exact Nat.le_refl _), hxs k hlt] at hcx
        have hfr := hr.free (off + k)
        have hx := hxw k hlt
        obtain ⟨x, hex⟩ : ∃ x, x = nth xs k := ⟨_, rfl⟩
        rw [← hex] at hcx hx
        obtain ⟨s, hs⟩ : ∃ s, s = (x + 1) % W64 := ⟨_, rfl⟩
        obtain ⟨d', hd'⟩ : ∃ d', d' = (x + 1) / W64 := ⟨_, rfl⟩
        have hA : (callFunc 122 #[.int .u64 (x : Int), .int .u64 0, .int .u64 1]).run Tryz.prog = _ := funext (fun w => add64_y x 1 (by omega) w)
        rw [← hs, ← hd'] at hA
        have h1 : d' ≤ 1 := by rw [hd']; have := carry_le (x := x) (y := 0) (c := 1) W64_pos hx W64_pos (by omega); simpa using this
        have H1 : Hid (nth (zs ++ [s]) k = s) := Lib.hid (nth_snoc _ _ _ hzl.out.symm)
        have H2 : Hid (vl W64 (zs ++ [s]) (k + 1) + d' * W64 ^ (k + 1) = vl W64 xs (k + 1) + c) := Lib.hid (by
          rw [vl_succ, vl_succ, H1.out, ← hex, vl_congr (xs := zs ++ [s]) (ys := zs) (fun i hi => nth_append_lt _ _ _ (by rw [hzl.out]; exact hi)), hd']
          have := limb_step (β := W64) (s := s) (x := x) (y := 0) (c := 1) (n := k) (Y := c) W64_pos (by simpa using hs) hv.out
          simp at this ⊢
          omega)
        have H3 : Hid (∀ i, i < k + 1 → nth (zs ++ [s]) i < W64) := Lib.hid (fun i hi => by
          by_cases hik : i = k
          · rw [hik, H1.out, hs]; exact Nat.mod_lt _ W64_pos
          · rw [nth_append_lt _ _ _ (by rw [hzl.out]; omega)]; exact hzw.out i (by omega))
        have H4 := hp.snoc s k hzl.out
        have H5 : Hid ((zs ++ [s]).length = k + 1) := Lib.hid (by simp [hzl.out])
        have HA := Lib.hid hA
        clear hA hs hd' hex hv hzw hzl H1 hx
        have H6 := hr.set (off + k) (.int .u64 (s : Int))
        go_wp2_with (simp only [HA.out])
        go_roundw
        case rel => exact ⟨k + 1, d', zs ++ [s], _, by omega, by go_num, rfl, h1, H5, H3, H6, H4, H2, grown_trans hg (grown_set _ _ _ _)⟩
        case measure => simp [intOf]; omega
      · obtain rfl : k = n := by omega
        go_wp2
        refine bodyPost_ret (results_none rfl _ _ _) rfl ?_
        exact ⟨zs, f', 1, rfl, hzl.out, hzw.out, hr, hp, hv.out, hg⟩

/-- Plain mathematics: the sum, out of its lower part and what carryUp makes of the upper one. -/
theorem add_whole {β : Nat} (hb : 2 ≤ β) (X Y A C : List Nat) (n m c d : Nat) (hm : m ≤ n) (hX : ∀ i, i < n → nth X i < β) (hY : ∀ i, i < m → nth Y i < β)
    (h1 : vl β A m + c * β ^ m = vl β X m + vl β Y m) (h2 : vl β C (n + 1 - m) + d * β ^ (n + 1 - m) = vl β (X.drop m) (n + 1 - m) + c) (h0 : nth X n = 0)
    (hA : A.length = m) (hC : C.length = n + 1 - m) (_hAw : ∀ i, i < m → nth A i < β) (_hCw : ∀ i, i < n + 1 - m → nth C i < β) : vl β (A ++ C) (n + 1) = vl β X n + vl β Y m := by
  have e1 : vl β (A ++ C) (n + 1) = vl β A m + β ^ m * vl β C (n + 1 - m) := by
    rw [show n + 1 = m + (n + 1 - m) by omega, vl_add, vl_congr (xs := A ++ C) (ys := A) (fun i hi => nth_append_lt _ _ _ (by omega)), show m + (n + 1 - m) - m = n + 1 - m by omega]
    congr 2
    rw [List.drop_append_of_le_length (by omega), List.drop_of_length_le (by omega), List.nil_append]
  have e2 : vl β X (n + 1) = vl β X m + β ^ m * vl β (X.drop m) (n + 1 - m) := by
    rw [← vl_add]; congr 1; omega
  have e3 : vl β X (n + 1) = vl β X n := by rw [vl_succ, h0]; simp
  have h3 := vl_lt X n hX
  have h4 := vl_lt Y m hY
  have h5 : β ^ m ≤ β ^ n := Nat.pow_le_pow_right (by omega) hm
  have h6 : 2 * β ^ n ≤ β ^ (n + 1) := by rw [Nat.pow_succ, Nat.mul_comm]; exact Nat.mul_le_mul_left _ hb
  have h7 : β ^ m * (vl β C (n + 1 - m) + d * β ^ (n + 1 - m)) = β ^ m * (vl β (X.drop m) (n + 1 - m) + c) := by rw [h2]
  have h8 : β ^ m * (d * β ^ (n + 1 - m)) = d * β ^ (n + 1) := by
    rw [Nat.mul_left_comm, ← Nat.pow_add]; congr 2; omega
  rw [Nat.mul_add, Nat.mul_add, h8, Nat.mul_comm (β ^ m) c] at h7
  have hd : d = 0 := by
    by_cases hd : d = 0
    · exact hd
    · have : 1 * β ^ (n + 1) ≤ d * β ^ (n + 1) := Nat.mul_le_mul_right _ (by omega)
      omega
  subst hd
  rw [Nat.zero_mul] at h7
  omega


set_option maxHeartbeats 2000000 in
theorem natAdd_any {B1 B2 : Nat} (p1 p2 : Option Addr) (l1 l2 c1 c2 : Nat) (xs ys : List Nat) (w : World) (h1 : l1 ≤ c1) (h2 : l2 ≤ c2) (k1 : l1 ≤ 900000) (k2 : l2 ≤ 900000)
    (r1 : Rd .u64 W64 B1 w p1 l1 xs) (r2 : Rd .u64 W64 B2 w p2 l2 ys) (hB1 : B1 ≤ w.heap.size) (hB2 : B2 ≤ w.heap.size) :
    Calls Tryz.prog 70 #[.slice p1 l1 c1, .slice p2 l2 c2] w (Gives .u64 W64 w (val W64 xs + val W64 ys)) := by
  obtain ⟨x, hx⟩ : ∃ x, x = val W64 xs := ⟨_, rfl⟩
  obtain ⟨y, hy⟩ : ∃ y, y = val W64 ys := ⟨_, rfl⟩
  rw [← hx, ← hy]
  have HXv := Lib.hid hx
  have HYv := Lib.hid hy
  clear hx hy
  go_enter Tryz.func70, Tryz.ntmps70
  go_wp2_with fail
  refine (trim_val p1 l1 c1 xs w h1 (by omega) r1).mono ?_
  rintro e w' ⟨q1, n1, rfl, hn1, hq1, hR1, rfl⟩
  go_wp2_with fail
  refine (trim_val p2 l2 c2 ys w h2 (by omega) r2).mono ?_
  rintro e w' ⟨q2, n2, rfl, hn2, hq2, hR2, rfl⟩
  rw [← HXv.out] at hR1
  rw [← HYv.out] at hR2
  replace hR1 := hR1.mono hB1
  replace hR2 := hR2.mono hB2
  clear r1 r2 HXv HYv hB1 hB2
  by_cases hlt : n1 < n2
  · skip
    have hsz : n2 ≤ 1000000 := by omega
    go_wp2_with (at_builtin; refine wpl_append_full Tryz.numTy64 rfl _ _ rfl q2 n2 _ rfl (hR2.below ((Below.refl _ _).alloc (Nat.le_refl _) _)) 0 ⟨w.heap.size, 0, none⟩ rfl (by simp [go_sem]) (by omega) (by omega) ?_)
    intro g cap w1 hcap hcap2 hg hown hgrow
    obtain ⟨f, hrow, hf⟩ := owns_row hown
    have hg1 : w.heap.size ≤ g := by omega
    have hbel : Below w.heap.size w w1 := (((Below.refl _ _).alloc (Nat.le_refl _) _).grown hgrow (by simp) (fun k hk => by simp at hk))
    have hcnt := hR2.count
    have hcntS := hR1.count
    have HX : Hid (∀ i, i < n2 + 1 → f i = .int .u64 ((nth (digs W64 y ++ [0]) i : Nat) : Int)) := Lib.hid (fun i hi => by
      have := hf i hi
      rw [ints_at _ _ _ (by simp [hcnt]; omega)] at this
      simpa using this)
    have HW : Hid (∀ i, i < n2 + 1 → nth (digs W64 y ++ [0]) i < W64) := Lib.hid (fun i hi => by
      by_cases h : i < n2
      · rw [nth_append_lt _ _ _ (by omega)]; exact hR2.word i h
      · rw [nth_snoc _ _ _ (by omega)]; exact W64_pos)
    have HS := hR1.below hbel
    have HC := Lib.hid hcnt
    have HCS := Lib.hid hcntS
    clear hcnt hcntS hf hown hgrow
    go_wp2_with fail
    refine (addTo_any g _ cap 0 (n2 + 1) n1 cap n1 f q1 (digs W64 y ++ [0]) (digs W64 x) w1 (by omega) (by omega) (by omega) (Nat.le_refl _) hrow (fun i hi => by rw [Nat.zero_add]; exact HX.out i (by omega)) (fun i hi => HW.out i (by omega)) (HS.mono (Nat.le_refl _)) (by omega)).mono ?_
    rintro e w2 ⟨A, f2, c, rfl, hc1, hAl, hAw, hrow2, hp2, hA, hg2⟩
    have HA := Lib.hid hA
    have HAl := Lib.hid hAl
    have HAw := Lib.hid hAw
    clear hA hAl hAw
    have hlt2 : n1 < cap := by omega
    go_wp2_with fail
    refine (carryUp_any g _ cap n1 (n2 + 1 - n1) (cap - n1) c f2 ((digs W64 y ++ [0]).drop n1) w2 (by omega) (by omega) hc1 (by rw [List.length_drop, List.length_append, HC.out]; rfl) hrow2 (fun i hi => by
        rw [hp2.old _ (by right; rw [HAl.out]; omega), HX.out _ (by omega), nth_drop]) (fun i hi => by rw [nth_drop]; exact HW.out _ (by omega))).mono ?_
    rintro e w3 ⟨C, f3, d, rfl, hCl, hCw, hrow3, hp3, hC, hg3⟩
    have hsum : Hid (vl W64 (A ++ C) (n2 + 1) = y + x) := Lib.hid (by
      have := add_whole two_le_W64 (digs W64 y ++ [0]) (digs W64 x) A C n2 n1 c d (by omega) (fun i hi => HW.out i (by omega)) hR1.word HA.out hC (nth_snoc _ _ _ HC.out.symm) HAl.out hCl HAw.out hCw
      rw [this, vl_congr (xs := digs W64 y ++ [0]) (ys := digs W64 y) (fun i hi => nth_append_lt _ _ _ (by rw [HC.out]; exact hi)), hR2.vl, hR1.vl, val_digs two_le_W64, val_digs two_le_W64])
    have hlen : Hid ((A ++ C).length = n2 + 1) := Lib.hid (by rw [List.length_append, HAl.out, hCl]; omega)
    have hrd : Rd .u64 W64 w3.heap.size w3 (some ⟨g, 0, none⟩) (n2 + 1) (A ++ C) := hrow3.rd 0 (n2 + 1) _ hrow3.lt (by omega) hlen.out (fun i hi => by
        by_cases h : i < n1
        · rw [nth_append_lt _ _ _ (by rw [HAl.out]; exact h)]; exact HAw.out i h
        · rw [nth_append_ge _ _ _ (by rw [HAl.out]; omega), HAl.out]; exact hCw _ (by omega)) (fun i hi => by
        rw [Nat.zero_add]
        by_cases h : i < n1
        · rw [nth_append_lt _ _ _ (by rw [HAl.out]; exact h), hp3.old i (Or.inl h)]
          have := hp2.new i (by rw [HAl.out]; exact h)
          rwa [Nat.zero_add] at this
        · rw [nth_append_ge _ _ _ (by rw [HAl.out]; omega), HAl.out]
          have := hp3.new (i - n1) (by rw [hCl]; omega)
          rwa [show n1 + (i - n1) = i by omega] at this)
    have hbel3 : Below w.heap.size w w3 := (hbel.grown hg2 hbel.size (fun k hk => by simp at hk; omega)).grown hg3 (Nat.le_trans hbel.size hg2.size) (fun k hk => by simp at hk; omega)
    have hval : Hid (val W64 (A ++ C) = x + y) := Lib.hid (by rw [← hrd.vl, hsum.out]; try exact Nat.add_comm _ _)
    clear hC hCw hCl hp3 hp2 hrow2 hrow hsum HX HW
    go_wp2_with fail
    refine (trim_val _ (n2 + 1) cap (A ++ C) w3 (by omega) (by omega) hrd).mono ?_
    rintro e w4 ⟨q, n, rfl, hn, hq, hR, rfl⟩
    rw [hval.out] at hR
    go_wp2
    go_ret
    exact ⟨q, n, n, rfl, Nat.le_refl _, hq, hR, hbel3⟩
  · skip
    have hsz : n1 ≤ 1000000 := by omega
    go_wp2_with (at_builtin; refine wpl_append_full Tryz.numTy64 rfl _ _ rfl q1 n1 _ rfl (hR1.below ((Below.refl _ _).alloc (Nat.le_refl _) _)) 0 ⟨w.heap.size, 0, none⟩ rfl (by simp [go_sem]) (by omega) (by omega) ?_)
    intro g cap w1 hcap hcap2 hg hown hgrow
    obtain ⟨f, hrow, hf⟩ := owns_row hown
    have hg1 : w.heap.size ≤ g := by omega
    have hbel : Below w.heap.size w w1 := (((Below.refl _ _).alloc (Nat.le_refl _) _).grown hgrow (by simp) (fun k hk => by simp at hk))
    have hcnt := hR1.count
    have hcntS := hR2.count
    have HX : Hid (∀ i, i < n1 + 1 → f i = .int .u64 ((nth (digs W64 x ++ [0]) i : Nat) : Int)) := Lib.hid (fun i hi => by
      have := hf i hi
      rw [ints_at _ _ _ (by simp [hcnt]; omega)] at this
      simpa using this)
    have HW : Hid (∀ i, i < n1 + 1 → nth (digs W64 x ++ [0]) i < W64) := Lib.hid (fun i hi => by
      by_cases h : i < n1
      · rw [nth_append_lt _ _ _ (by omega)]; exact hR1.word i h
      · rw [nth_snoc _ _ _ (by omega)]; exact W64_pos)
    have HS := hR2.below hbel
    have HC := Lib.hid hcnt
    have HCS := Lib.hid hcntS
    clear hcnt hcntS hf hown hgrow
    go_wp2_with fail
    refine (addTo_any g _ cap 0 (n1 + 1) n2 cap n2 f q2 (digs W64 x ++ [0]) (digs W64 y) w1 (by omega) (by omega) (by omega) (Nat.le_refl _) hrow (fun i hi => by rw [Nat.zero_add]; exact HX.out i (by omega)) (fun i hi => HW.out i (by omega)) (HS.mono (Nat.le_refl _)) (by omega)).mono ?_
    rintro e w2 ⟨A, f2, c, rfl, hc1, hAl, hAw, hrow2, hp2, hA, hg2⟩
    have HA := Lib.hid hA
    have HAl := Lib.hid hAl
    have HAw := Lib.hid hAw
    clear hA hAl hAw
    have hlt2 : n2 < cap := by omega
    go_wp2_with fail
    refine (carryUp_any g _ cap n2 (n1 + 1 - n2) (cap - n2) c f2 ((digs W64 x ++ [0]).drop n2) w2 (by omega) (by omega) hc1 (by rw [List.length_drop, List.length_append, HC.out]; rfl) hrow2 (fun i hi => by
        rw [hp2.old _ (by right; rw [HAl.out]; omega), HX.out _ (by omega), nth_drop]) (fun i hi => by rw [nth_drop]; exact HW.out _ (by omega))).mono ?_
    rintro e w3 ⟨C, f3, d, rfl, hCl, hCw, hrow3, hp3, hC, hg3⟩
    have hsum : Hid (vl W64 (A ++ C) (n1 + 1) = x + y) := Lib.hid (by
      have := add_whole two_le_W64 (digs W64 x ++ [0]) (digs W64 y) A C n1 n2 c d (by omega) (fun i hi => HW.out i (by omega)) hR2.word HA.out hC (nth_snoc _ _ _ HC.out.symm) HAl.out hCl HAw.out hCw
      rw [this, vl_congr (xs := digs W64 x ++ [0]) (ys := digs W64 x) (fun i hi => nth_append_lt _ _ _ (by rw [HC.out]; exact hi)), hR1.vl, hR2.vl, val_digs two_le_W64, val_digs two_le_W64])
    have hlen : Hid ((A ++ C).length = n1 + 1) := Lib.hid (by rw [List.length_append, HAl.out, hCl]; omega)
    have hrd : Rd .u64 W64 w3.heap.size w3 (some ⟨g, 0, none⟩) (n1 + 1) (A ++ C) := hrow3.rd 0 (n1 + 1) _ hrow3.lt (by omega) hlen.out (fun i hi => by
        by_cases h : i < n2
        · rw [nth_append_lt _ _ _ (by rw [HAl.out]; exact h)]; exact HAw.out i h
        · rw [nth_append_ge _ _ _ (by rw [HAl.out]; omega), HAl.out]; exact hCw _ (by omega)) (fun i hi => by
        rw [Nat.zero_add]
        by_cases h : i < n2
        · rw [nth_append_lt _ _ _ (by rw [HAl.out]; exact h), hp3.old i (Or.inl h)]
          have := hp2.new i (by rw [HAl.out]; exact h)
          rwa [Nat.zero_add] at this
        · rw [nth_append_ge _ _ _ (by rw [HAl.out]; omega), HAl.out]
          have := hp3.new (i - n2) (by rw [hCl]; omega)
          rwa [show n2 + (i - n2) = i by omega] at this)
    have hbel3 : Below w.heap.size w w3 := (hbel.grown hg2 hbel.size (fun k hk => by simp at hk; omega)).grown hg3 (Nat.le_trans hbel.size hg2.size) (fun k hk => by simp at hk; omega)
    have hval : Hid (val W64 (A ++ C) = x + y) := Lib.hid (by rw [← hrd.vl, hsum.out]; try exact Nat.add_comm _ _)
    clear hC hCw hCl hp3 hp2 hrow2 hrow hsum HX HW
    go_wp2_with fail
    refine (trim_val _ (n1 + 1) cap (A ++ C) w3 (by omega) (by omega) hrd).mono ?_
    rintro e w4 ⟨q, n, rfl, hn, hq, hR, rfl⟩
    rw [hval.out] at hR
    go_wp2
    go_ret
    exact ⟨q, n, n, rfl, Nat.le_refl _, hq, hR, hbel3⟩
end Go.Proofs.YtndcaajebomkhaaGreatDoor
