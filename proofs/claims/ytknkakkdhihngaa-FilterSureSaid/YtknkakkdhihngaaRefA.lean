/- The document's own answers for layer 1: Trim, digit, Same, Digits, Limbs of any digits. -/
import Derived.Test.YtknkakkdhihngaaNatI
namespace Go.Proofs.Ytknkakkdhihngaa
open Go.RowKit

theorem Try.numTy32 : NumTy Try.prog 34 65 .u32 4 := ⟨Try.underlying34, by kernel_rfl⟩

theorem refTrim_any {B : Nat} (p : Option Addr) (len cap : Nat) (zs : List Nat) (w : World) (h : len ≤ cap) (hl : len ≤ 4000000) (hr : Rd .u32 65536 B w p len zs) :
   Calls Try.prog 37 #[.slice p len cap] w fun e w' => e = .returned (.slice p (tl zs len) cap) ∧ w = w' := by
  have hle := tl_le zs len
  go_enter Try.func37, Try.ntmps37
  go_wp2
  go_loop [3] (fun i => ∃ k : Nat, k ≤ len ∧ i = .int .i64 k ∧ Hid (tl zs len = tl zs k)) (fun i => (intOf i).toNat)
  case atStart => exact ⟨len, Nat.le_refl _, rfl, Lib.hid rfl⟩
  case round =>
    obtain ⟨k, hk, rfl, ht⟩ := hrel
    by_cases h0 : 0 < k
    · obtain ⟨b, off, rfl, _, hcell⟩ := hr.cell (k - 1) (by omega)
      have hk1 : 0 ≤ (k : Int) - 1 := by omega
      have hk2 : ((k : Int) - 1).toNat = k - 1 := by omega
      by_cases hz : nth zs (k - 1) = 0
      · have ht2 : Hid (tl zs len = tl zs (k - 1)) := Lib.hid (by rw [ht.out, tl_nought _ _ h0 hz])
        rw [hz] at hcell
        clear hz ht
        go_wp2
        go_round
        case rel => exact ⟨k - 1, by omega, by go_num, ht2⟩
        case measure => simp [intOf]; omega
      · have hp : 0 < nth zs (k - 1) := by omega
        have ht2 : Hid (tl zs len = k) := Lib.hid (by rw [ht.out, tl_top _ _ h0 hz])
        clear hz ht
        go_wp2
        go_ret
        exact ⟨by rw [ht2.out]; rfl, rfl⟩
    · go_wp2
      go_ret
      exact ⟨by obtain rfl : k = 0 := by omega
                rw [ht.out, tl_zero]; rfl, rfl⟩

/-- What ref.Trim hands back: what was handed in, shorter. -/
def RefTrimmed (B : Nat) (w : World) (p : Option Addr) (len cap : Nat) (zs : List Nat) (e : Ending) (w' : World) : Prop :=
  ∃ n, e = .returned (.slice p n cap) ∧ n ≤ len ∧ Rd .u32 65536 B w p n (digs 65536 (val 65536 zs)) ∧ w = w'
theorem refTrim_val {B : Nat} (p : Option Addr) (len cap : Nat) (zs : List Nat) (w : World) (h : len ≤ cap) (hl : len ≤ 4000000) (hr : Rd .u32 65536 B w p len zs) :
   Calls Try.prog 37 #[.slice p len cap] w (RefTrimmed B w p len cap zs) := by
  refine (refTrim_any p len cap zs w h hl hr).mono ?_
  rintro e w' ⟨rfl, rfl⟩
  exact ⟨_, rfl, tl_le _ _, hr.trimmed (by omega), rfl⟩

theorem refDigit_any {B : Nat} (p : Option Addr) (len cap k : Nat) (zs : List Nat) (w : World) (_hl : len ≤ 4000000) (_hk : k ≤ 1000000000) (hr : Rd .u32 65536 B w p len zs) :
   Calls Try.prog 55 #[.slice p len cap, .int .i64 (k : Int)] w fun e w' => e = .returned (.int .u32 ((nth zs k : Nat) : Int)) ∧ w = w' := by
  by_cases h : k < len
  · obtain ⟨b, off, rfl, _, hcell⟩ := hr.cell k h
    go_enter Try.func55, Try.ntmps55
    go_wp2
    go_ret
    exact ⟨rfl, rfl⟩
  · rw [nth_past zs k (by rw [hr.count]; omega)]
    go_enter Try.func55, Try.ntmps55
    go_wp2
    go_ret
    exact ⟨rfl, rfl⟩


/-! Plain mathematics: a limb's four digits. -/
theorem W64_four : W64 = 65536 ^ 4 := by unfold W64; decide
theorem dig_step {β n X X' z D : Nat} (hz : z = X % β) (hX : X' = X / β) : D + z * β ^ n + X' * β ^ (n + 1) = D + X * β ^ n := by
  have h1 := Nat.div_add_mod X β
  rw [← hz, ← hX] at h1
  have h2 : (β * X' + z) * β ^ n = X * β ^ n := by rw [h1]
  rw [Nat.add_mul] at h2
  have h3 : X' * β ^ (n + 1) = β * X' * β ^ n := by rw [Nat.pow_succ, Nat.mul_comm (β ^ n) β, ← Nat.mul_assoc, Nat.mul_comm X' β]
  rw [h3]
  omega
theorem dig_small {X X' t : Nat} (ht : t < 4) (h : X < 65536 ^ (4 - t)) (hX : X' = X / 65536) : X' < 65536 ^ (4 - (t + 1)) := by
  rw [hX, Nat.div_lt_iff_lt_mul (by omega), ← Nat.pow_succ, show (4 - (t + 1)).succ = 4 - t by omega]; exact h

set_option maxHeartbeats 2000000 in
theorem refDigits_any {B : Nat} (p : Option Addr) (len cap : Nat) (zs : List Nat) (w : World) (h : len ≤ cap) (hl : len ≤ 900000) (hr : Rd .u64 W64 B w p len zs) (hB : B ≤ w.heap.size) :
    Calls Try.prog 50 #[.slice p len cap] w (Gives .u32 65536 w (val W64 zs)) := by
  go_enter Try.func50, Try.ntmps50
  go_wp2_with fail
  go_loopw [3, 4] (fun v i wr => ∃ (k n c : Nat) (q : Option Addr) (ds : List Nat), k ≤ len ∧ i = .int .i64 k ∧ v = .slice q n c ∧ wr.ownsRow w.heap.size 65 1 (.slice q n c) n (ints .u32 ds) ∧ Below w.heap.size w wr ∧ Hid (n = 4 * k) ∧
      Hid (∀ i, i < n → nth ds i < 65536) ∧ Hid (vl 65536 ds n = vl W64 zs k)) (fun _ i _ => len - (intOf i).toNat)
  case atStart => exact ⟨0, 0, 0, none, [], Nat.zero_le _, rfl, rfl, World.ownsRow_nil _ _ _ _, Below.refl _ _, Lib.hid rfl, Lib.hid (fun i hi => by omega), Lib.hid (by simp [vl])⟩
  case round =>
    obtain ⟨k, n, c, q, ds, hk, rfl, rfl, hown, hb, hn, hw, hv⟩ := hrel
    by_cases hlt : k < len
    · obtain ⟨b, off, rfl, _, hcell⟩ := ((hr.mono hB).below hb).cell k hlt
      obtain ⟨X0, hX0⟩ : ∃ X0, X0 = nth zs k := ⟨_, rfl⟩
      have hX1 := hr.word k hlt
      rw [← hX0] at hcell hX1
      have HX0 := Lib.hid hX0
      have HX1 := Lib.hid hX1
      clear hX0 hX1
      go_wp2_with fail
      go_loopw [3, 5, 6] (fun v x j wr => ∃ (t n c X : Nat) (q : Option Addr) (ds : List Nat), t ≤ 4 ∧ j = .int .i64 t ∧ x = .int .u64 X ∧ v = .slice q n c ∧ wr.ownsRow w.heap.size 65 1 (.slice q n c) n (ints .u32 ds) ∧ Below w.heap.size w wr ∧ Hid (n = 4 * k + t) ∧
          Hid (∀ i, i < n → nth ds i < 65536) ∧ Hid (X < 65536 ^ (4 - t)) ∧ Hid (vl 65536 ds n + X * 65536 ^ n = vl W64 zs (k + 1))) (fun _ _ j _ => 4 - (intOf j).toNat)
      case atStart => exact ⟨0, n, c, X0, q, ds, by omega, rfl, rfl, rfl, hown, hb, Lib.hid hn.out, hw, Lib.hid (by have := HX1.out; rw [W64_four] at this; exact this), Lib.hid (by rw [hv.out, vl_succ, ← HX0.out, W64_four, ← Nat.pow_mul, hn.out])⟩
      case round =>
        clear hown hb hn hw hv hcell
        obtain ⟨t, n, c, X, q, ds, ht, rfl, rfl, rfl, hown, hb, hn, hw, hX, hv⟩ := hrel
        by_cases ht4 : t < 4
        · obtain ⟨z, hz⟩ : ∃ z, z = X % 65536 := ⟨_, rfl⟩
          obtain ⟨X', hX'⟩ : ∃ X', X' = X / 65536 := ⟨_, rfl⟩
          have e1 : (X : Int) % 65536 = (z : Int) := by omega
          have e2 : (X : Int) / 65536 = (X' : Int) := by omega
          have e3 : IntKind.u64.wrap (X' : Int) = (X' : Int) := by
            have h2 : X' < 65536 ^ 4 := Nat.lt_of_lt_of_le (dig_small ht4 hX.out hX') (Nat.pow_le_pow_right (by omega) (by omega))
            rw [← W64_four] at h2
            rw [wrap_u64, Nat.mod_eq_of_lt h2]
          have hz1 : z < 65536 := by omega
          have hnb : n ≤ 4000000 := by have := hn.out; omega
          have HZ := Lib.hid hz
          have HX' := Lib.hid hX'
          have hbs := hb.size
          clear hz hX'
          go_wp2_with (at_builtin; refine wpl_append_one Try.numTy32 rfl _ _ rfl w.heap.size n _ ds rfl (hown.alloc _) z ⟨_, 0, none⟩ rfl (by simp [go_sem]) (by omega) (by omega) (by simp; omega) ?_)
          intro q' c' w' hown' hgrow
          have hb' : Below w.heap.size w w' := (hb.alloc hbs _).grown hgrow (by simp; omega) (fun k hk => (hown.lt k hk).1)
          have hcount : ds.length = n := by have := hown.1; rw [ints_length] at this; omega
          have H1 : Hid (∀ i, i < n + 1 → nth (ds ++ [z]) i < 65536) := Lib.hid (fun i hi => by
            by_cases h : i < n
            · rw [nth_append_lt _ _ _ (by omega)]; exact hw.out i h
            · rw [nth_snoc _ _ _ (by omega)]; exact hz1)
          have H2 : Hid (X' < 65536 ^ (4 - (t + 1))) := Lib.hid (dig_small ht4 hX.out HX'.out)
          have H3 : Hid (vl 65536 (ds ++ [z]) (n + 1) + X' * 65536 ^ (n + 1) = vl W64 zs (k + 1)) := Lib.hid (by
            rw [vl_succ, nth_snoc _ _ _ hcount.symm, vl_congr (xs := ds ++ [z]) (ys := ds) (fun i hi => nth_append_lt _ _ _ (by omega)), dig_step HZ.out HX'.out, hv.out])
          have H4 : Hid (n + 1 = 4 * k + (t + 1)) := Lib.hid (by rw [hn.out]; omega)
          clear hown hb hw hX hv hcount hgrow hn
          go_wp2
          go_roundw
          case rel => exact ⟨t + 1, n + 1, c', X', q', ds ++ [z], by omega, by go_num, rfl, rfl, hown', hb', H4, H1, H2, H3⟩
          case measure => simp [intOf]; omega
        · obtain rfl : t = 4 := by omega
          have H1 : Hid (vl 65536 ds n = vl W64 zs (k + 1)) := Lib.hid (by
            have h1 := hX.out
            rw [show 4 - 4 = 0 from rfl, Nat.pow_zero] at h1
            have h2 := hv.out
            rw [show X = 0 by omega, Nat.zero_mul] at h2
            exact h2)
          have H4 : Hid (n = 4 * (k + 1)) := Lib.hid (by rw [hn.out]; omega)
          clear hX hv hn
          go_wp2
          go_roundw
          case rel => exact ⟨k + 1, n, c, q, ds, by omega, by go_num, rfl, hown, hb, H4, hw, H1⟩
          case measure => simp [intOf]; omega
    · obtain rfl : k = len := by omega
      have hcount : ds.length = n := by have := hown.1; rw [ints_length] at this; omega
      have hrd := owns_rd (β := 65536) hown (Nat.le_refl _) (fun i hi => hw.out i (by omega))
      have hnb : n ≤ 4000000 := by have := hn.out; omega
      have hval : Hid (val 65536 ds = val W64 zs) := Lib.hid (by rw [← hrd.vl, hv.out, hr.vl])
      have hnil := owns_nil hown
      have hroom := owns_room hown
      have HN := Lib.hid hnil
      clear hown hw hv hn hcount hnil
      go_wp2_with fail
      refine (refTrim_val q n c ds _ hroom hnb hrd).mono ?_
      rintro e w' ⟨m, rfl, hm, hR, rfl⟩
      rw [hval.out] at hR
      go_wp2
      go_ret
      exact ⟨q, m, c, rfl, by omega, HN.out, hR, hb⟩
end Go.Proofs.Ytknkakkdhihngaa
