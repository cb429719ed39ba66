/- The document's own answers for layer 1: Limbs and Mul of any digits. -/
import Derived.Test.YtndcaajebomkhaaGreatDoorRefA
namespace Go.Proofs.YtndcaajebomkhaaGreatDoor
open Go.RowKit

/-! Plain mathematics: four digits are a limb. -/
theorem vl_first {β : Nat} (L : List Nat) (a n : Nat) : vl β (L.drop a) (n + 1) = nth L a + β * vl β (L.drop (a + 1)) n := by
  rw [Nat.add_comm n 1, vl_add, vl_succ, vl_zero, nth_drop, List.drop_drop]
  simp
theorem chunk_step {t I X X' d : Nat} (ds : List Nat) (h0 : 0 < t) (ht : t ≤ 4) (hX : X = vl 65536 (ds.drop (I + t)) (4 - t)) (hd : d = nth ds (I + (t - 1))) (hX' : X' = X * 65536 + d) : X' = vl 65536 (ds.drop (I + (t - 1))) (4 - (t - 1)) := by
  rw [show 4 - (t - 1) = (4 - t) + 1 by omega, vl_first, show I + (t - 1) + 1 = I + t by omega, ← hX, ← hd, hX', Nat.mul_comm, Nat.add_comm]
theorem chunk_lt {t I X : Nat} (ds : List Nat) (hw : ∀ i, nth ds i < 65536) (hX : X = vl 65536 (ds.drop (I + t)) (4 - t)) : X < 65536 ^ (4 - t) := by
  rw [hX]; exact vl_lt _ _ (fun i _ => by rw [nth_drop]; exact hw _)
theorem limb_of {I j Y : Nat} (ds ys : List Nat) (hI : I = 4 * j) (_hY : Y = vl W64 ys j) (h : Y = vl 65536 ds I) : Y + vl 65536 (ds.drop I) 4 * W64 ^ j = vl 65536 ds (I + 4) := by
  rw [vl_add, h, W64_four, ← Nat.pow_mul, ← hI, Nat.mul_comm]
/-- As many digits, of the same value: the canonical ones. -/
theorem digs_by {β : Nat} (hb : 2 ≤ β) (ys : List Nat) (n : Nat) (hl : ys.length = (digs β n).length) (hw : ∀ i, i < ys.length → nth ys i < β) (hv : val β ys = n) : ys = digs β n := by
  have h := digs_of hb ys hw (by
    by_cases h0 : ys.length = 0
    · exact Or.inl h0
    · right
      intro ht
      have h1 : vl β ys (ys.length - 1) = n := by
        have h2 : vl β ys (ys.length - 1 + 1) = n := by rw [show ys.length - 1 + 1 = ys.length by omega]; exact hv
        rw [vl_succ, ht, Nat.zero_mul, Nat.add_zero] at h2; exact h2
      have h3 := vl_lt ys (ys.length - 1) (fun i hi => hw i (by omega))
      rw [h1] at h3
      have := (digs_length_le hb n _).2 h3
      omega)
  rw [hv] at h; exact h
theorem limbs_length {X n j : Nat} (hn : (digs 65536 X).length = n) (h1 : n ≤ 4 * j) (h2 : 4 * j < n + 4) : (digs W64 X).length = j := by
  have a : X < W64 ^ j := by
    rw [W64_four, ← Nat.pow_mul]
    exact (digs_length_le (by omega) X (4 * j)).1 (by omega)
  have b := (digs_length_le two_le_W64 X j).2 a
  by_cases hj : j = 0
  · omega
  · have c := (digs_lt_length (β := 65536) (by omega) X (4 * (j - 1))).1 (by omega)
    have d : W64 ^ (j - 1) ≤ X := by rw [W64_four, ← Nat.pow_mul]; exact c
    have e := (digs_lt_length two_le_W64 X (j - 1)).2 d
    omega

set_option maxHeartbeats 2000000 in
theorem refLimbs_any {B : Nat} (p : Option Addr) (len cap : Nat) (zs : List Nat) (w : World) (h : len ≤ cap) (hl : len ≤ 900000) (hr : Rd .u32 65536 B w p len zs) (hB : B ≤ w.heap.size) :
    Calls Tryz.prog 36 #[.slice p len cap] w (Gives .u64 W64 w (val 65536 zs)) := by
  obtain ⟨x, hx⟩ : ∃ x, x = val 65536 zs := ⟨_, rfl⟩
  rw [← hx]
  have HX := Lib.hid hx
  clear hx
  go_enter Tryz.func36, Tryz.ntmps36
  go_wp2_with fail
  refine (refTrim_val p len cap zs w h (by omega) hr).mono ?_
  rintro e w' ⟨n, rfl, hn, hR, rfl⟩
  rw [← HX.out] at hR
  replace hR := hR.mono hB
  clear hr HX hB
  go_wp2_with fail
  go_loopw [3, 4] (fun v i wr => ∃ (j I c : Nat) (q : Option Addr) (ys : List Nat), I < n + 4 ∧ i = .int .i64 I ∧ v = .slice q j c ∧ wr.ownsRow w.heap.size 53 1 (.slice q j c) j (ints .u64 ys) ∧ Below w.heap.size w wr ∧ Hid (I = 4 * j) ∧
      Hid (∀ i, i < j → nth ys i < W64) ∧ Hid (vl W64 ys j = vl 65536 (digs 65536 x) I)) (fun _ i _ => n + 4 - (intOf i).toNat)
  case atStart => exact ⟨0, 0, 0, none, [], by omega, rfl, rfl, World.ownsRow_nil _ _ _ _, Below.refl _ _, Lib.hid rfl, Lib.hid (fun i hi => by omega), Lib.hid (by simp [vl])⟩
  case round =>
    obtain ⟨j, I, c, q, ys, hI, rfl, rfl, hown, hb, hIj, hw, hv⟩ := hrel
    by_cases hlt : I < n
    · have hRb := hR.below hb
      go_wp2_with fail
      go_loop [5, 6] (fun x1 k => ∃ (t X : Nat), t ≤ 4 ∧ k = .int .i64 (t - 1) ∧ x1 = .int .u64 X ∧ Hid (X = vl 65536 ((digs 65536 x).drop (I + t)) (4 - t))) (fun _ k => (intOf k + 1).toNat)
      case atStart => exact ⟨4, 0, by omega, rfl, rfl, Lib.hid (by simp [vl])⟩
      case round =>
        obtain ⟨t, X, ht, rfl, rfl, hX⟩ := hrel
        by_cases h0 : 0 < t
        · have hXlt : X * 65536 + 65535 < 18446744073709551616 := by
            have h1 := chunk_lt (digs 65536 x) (fun i => digs_word (by omega) x i) hX.out
            have h2 : 65536 ^ (4 - t) ≤ 65536 ^ 3 := Nat.pow_le_pow_right (by omega) (by omega)
            have h3 : (65536 : Nat) ^ 3 = 281474976710656 := by decide
            omega
          obtain ⟨d, hd⟩ : ∃ d, d = nth (digs 65536 x) (I + (t - 1)) := ⟨_, rfl⟩
          obtain ⟨X', hX'⟩ : ∃ X', X' = X * 65536 + d := ⟨_, rfl⟩
          have hd1 : d < 65536 := by rw [hd]; exact digs_word (by omega) _ _
          have H1 : Hid (X' = vl 65536 ((digs 65536 x).drop (I + (t - 1))) (4 - (t - 1))) := Lib.hid (chunk_step _ h0 ht hX.out hd hX')
          have hk1 : 0 ≤ (t : Int) - 1 := by omega
          have hk2 : ((I : Int) + ((t : Int) - 1)).toNat = I + (t - 1) := by omega
          have HX' := Lib.hid hX'
          by_cases hin : I + (t - 1) < n
          · obtain ⟨b, off, rfl, _, hcell⟩ := hRb.cell (I + (t - 1)) hin
            rw [← hd] at hcell
            have hk3 : (I : Int) + ((t : Int) - 1) < n := by omega
            clear hd hX hX'
            go_wp2
            go_round
            case rel => exact ⟨t - 1, X', by omega, by go_num, congrArg (Value.int .u64) (by have := HX'.out; omega), H1⟩
            case measure => simp [intOf]; omega
          · have hk3 : ¬ ((I : Int) + ((t : Int) - 1) < n) := by omega
            have hd0 : d = 0 := by rw [hd]; exact nth_past _ _ (by rw [hR.count]; omega)
            subst hd0
            clear hd hX hX'
            go_wp2
            go_round
            case rel => exact ⟨t - 1, X', by omega, by go_num, congrArg (Value.int .u64) (by have := HX'.out; omega), H1⟩
            case measure => simp [intOf]; omega
        · obtain rfl : t = 0 := by omega
          have hXw : X < W64 := by
            have h1 := chunk_lt (digs 65536 x) (fun i => digs_word (by omega) x i) hX.out
            rw [W64_four]; exact h1
          have HXw := Lib.hid hXw
          have hjb : j ≤ 1000000 := by have := hIj.out; omega
          have hbs := hb.size
          have hcount : Hid (ys.length = j) := Lib.hid (by have := hown.1; rw [ints_length] at this; omega)
          clear hXw
          go_wp2_with (at_builtin; refine wpl_append_one Tryz.numTy64 rfl _ _ rfl w.heap.size j _ ys rfl (hown.alloc _) X ⟨_, 0, none⟩ rfl (by simp [go_sem]) (by omega) (by omega) (by simp; omega) ?_)
          intro q' c' w' hown' hgrow
          have hb' : Below w.heap.size w w' := (hb.alloc hbs _).grown hgrow (by simp; omega) (fun k hk => (hown.lt k hk).1)
          have H1 : Hid (∀ i, i < j + 1 → nth (ys ++ [X]) i < W64) := Lib.hid (fun i hi => by
            by_cases h : i < j
            · rw [nth_append_lt _ _ _ (by rw [hcount.out]; omega)]; exact hw.out i h
            · rw [nth_snoc _ _ _ (by rw [hcount.out]; omega)]; exact HXw.out)
          have H3 : Hid (vl W64 (ys ++ [X]) (j + 1) = vl 65536 (digs 65536 x) (I + 4)) := Lib.hid (by
            rw [vl_succ, nth_snoc _ _ _ hcount.out.symm, vl_congr (xs := ys ++ [X]) (ys := ys) (fun i hi => nth_append_lt _ _ _ (by rw [hcount.out]; omega)), hX.out]
            exact limb_of (digs 65536 x) ys hIj.out rfl hv.out)
          have H4 : Hid (I + 4 = 4 * (j + 1)) := Lib.hid (by rw [hIj.out]; omega)
          clear hown hb hw hX hv hcount hgrow hIj hRb
          go_wp2
          go_roundw
          case rel => exact ⟨j + 1, I + 4, c', q', ys ++ [X], by omega, by go_num, rfl, hown', hb', H4, H1, H3⟩
          case measure => simp [intOf]; omega
    · have hcount : ys.length = j := by have := hown.1; rw [ints_length] at this; omega
      have hrd := owns_rd (β := W64) hown (Nat.le_refl _) (fun i hi => hw.out i (by omega))
      have hval : val W64 ys = x := by
        rw [← hrd.vl, hv.out, vl_past _ _ (by rw [hR.count]; omega), val_digs (by omega)]
      have hys : Hid (ys = digs W64 x) := Lib.hid (digs_by two_le_W64 ys x (by rw [hcount, limbs_length hR.count (j := j) (by have := hIj.out; omega) (by have := hIj.out; omega)]) hrd.words_lt hval)
      have hnil := Lib.hid (owns_nil hown)
      have hroom := owns_room hown
      rw [hys.out] at hrd
      clear hown hw hv hcount hval hIj
      go_wp2
      go_ret
      exact ⟨q, j, c, rfl, hroom, hnil.out, hrd, hb⟩
end Go.Proofs.YtndcaajebomkhaaGreatDoor
