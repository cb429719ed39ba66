/- Layer 1 (nat): addTimes and Mul of any numbers. -/
import Derived.Test.YtndcaajebomkhaaGreatDoorNatF
namespace Go.Proofs.YtndcaajebomkhaaGreatDoor
open Go.RowKit

/-- math/bits.Mul64. -/
theorem mul64 (x y : Nat) (hx : x < W64) (hy : y < W64) (w : World) :
    Calls Tryz.prog 96 #[.int .u64 (x : Int), .int .u64 (y : Int)] w fun e w' => e = .returned (.tuple #[.int .u64 ((x * y / W64 : Nat) : Int), .int .u64 ((x * y % W64 : Nat) : Int)]) ∧ w = w' :=
  (bits_Mul64 x y hx hy w).mono fun _ _ h => ⟨h.1, h.2.symm⟩

/-! Plain mathematics: one limb times another, with what is there and a carry. -/
theorem mul_limb {β y t x c hi lo o1 l1 o2 l2 : Nat} (_hb : 0 < β) (hhi : hi = y * t / β) (hlo : lo = y * t % β) (ho1 : o1 = (lo + x) / β) (hl1 : l1 = (lo + x) % β) (ho2 : o2 = (l1 + c) / β) (hl2 : l2 = (l1 + c) % β) :
    l2 + (hi + o1 + o2) * β = x + y * t + c := by
  have h1 := Nat.div_add_mod (y * t) β
  have h2 := Nat.div_add_mod (lo + x) β
  have h3 := Nat.div_add_mod (l1 + c) β
  rw [← hhi, ← hlo, Nat.mul_comm] at h1
  rw [← ho1, ← hl1, Nat.mul_comm] at h2
  rw [← ho2, ← hl2, Nat.mul_comm] at h3
  rw [Nat.add_mul, Nat.add_mul]
  omega
theorem mul_bound {β y t x c l d : Nat} (hy : y < β) (ht : t < β) (hx : x < β) (hc : c < β) (h : l + d * β = x + y * t + c) : d < β := by
  obtain ⟨b, rfl⟩ : ∃ b, β = b + 1 := ⟨β - 1, by omega⟩
  have h1 : y * t ≤ b * b := Nat.mul_le_mul (by omega) (by omega)
  by_cases hd : d < b + 1
  · exact hd
  · have h2 : (b + 1) * (b + 1) ≤ d * (b + 1) := Nat.mul_le_mul_right _ (by omega)
    rw [Nat.add_mul, Nat.mul_add] at h2
    omega
theorem mul_step {β l x y t c d n Z X Y : Nat} (hl : l + d * β = x + y * t + c) (h : Z + c * β ^ n = X + t * Y) :
    (Z + l * β ^ n) + d * β ^ (n + 1) = (X + x * β ^ n) + t * (Y + y * β ^ n) := by
  have h2 : (l + d * β) * β ^ n = (x + y * t + c) * β ^ n := by rw [hl]
  rw [Nat.add_mul, Nat.add_mul, Nat.add_mul] at h2
  have h3 : d * β ^ (n + 1) = d * β * β ^ n := by rw [Nat.pow_succ, Nat.mul_comm (β ^ n) β, Nat.mul_assoc]
  have h4 : t * (y * β ^ n) = y * t * β ^ n := by rw [← Nat.mul_assoc, Nat.mul_comm t y]
  rw [h3, Nat.mul_add, h4]
  omega

/-- What addTimes leaves behind. -/
def AddedTimes (g e N : Nat) (f : Nat → Value) (off m : Nat) (xs ys : List Nat) (t : Nat) (w : World) (en : Ending) (w' : World) : Prop :=
  ∃ zs f' c, en = .returned (.int .u64 ((c : Nat) : Int)) ∧ c < W64 ∧ zs.length = m ∧ (∀ i, i < m → nth zs i < W64) ∧ Row w' g e N f' ∧ Part .u64 f f' off zs ∧
    vl W64 zs m + c * W64 ^ m = vl W64 xs m + t * vl W64 ys m ∧ w.grownBy w' (some g)

set_option maxHeartbeats 2000000 in
theorem addTimes_any {B : Nat} (g e N off n m cap c2 t : Nat) (f : Nat → Value) (q : Option Addr) (xs ys : List Nat) (w : World) (hm : m ≤ n) (hn : n ≤ 1000000) (hN : off + n ≤ N) (ht : t < W64)
    (hrow : Row w g e N f) (hxs : ∀ i, i < m → f (off + i) = .int .u64 ((nth xs i : Nat) : Int)) (hxw : ∀ i, i < m → nth xs i < W64) (hR : Rd .u64 W64 B w q m ys) (hB : B ≤ g) :
    Calls Tryz.prog 100 #[.slice (some ⟨g, off, none⟩) n cap, .slice q m c2, .int .u64 (t : Int)] w (AddedTimes g e N f off m xs ys t w) := by
  have hgw := hrow.lt
  have HT := Lib.hid ht
  clear ht
  go_enter Tryz.func100, Tryz.ntmps100
  go_wp2_with fail
  go_loopw [7, 16] (fun c i wr => ∃ (k d : Nat) (zs : List Nat) (f' : Nat → Value), k ≤ m ∧ i = .int .i64 k ∧ c = .int .u64 d ∧ Hid (d < W64) ∧ Hid (zs.length = k) ∧ Hid (∀ i, i < k → nth zs i < W64) ∧ Row wr g e N f' ∧ Part .u64 f f' off zs ∧
      Hid (vl W64 zs k + d * W64 ^ k = vl W64 xs k + t * vl W64 ys k) ∧ w.grownBy wr (some g)) (fun _ i _ => m - (intOf i).toNat)
  case atStart => exact ⟨0, 0, [], f, Nat.zero_le _, rfl, rfl, Lib.hid W64_pos, Lib.hid rfl, Lib.hid (fun i hi => by omega), hrow, Part.none _ _ _, Lib.hid (by simp [vl]), World.grownBy.refl _ _⟩
  case round =>
    obtain ⟨k, d, zs, f', hk, rfl, rfl, hd, hzl, hzw, hr, hp, hv, hg⟩ := hrel
    by_cases hlt : k < m
    · obtain ⟨b, o, rfl, hb, hcy⟩ := (hR.grown hg hB (by omega)).cell k hlt
      have hcx := hr.cell (off + k) (by omega)
      rw [hp.old (off + k) (by right; rw [hzl.out]; exact Nat.le_refl _), hxs k hlt] at hcx
      have hfr := hr.free (off + k)
      have hx := hxw k hlt
      have hy := hR.word k hlt
      obtain ⟨x, hex⟩ : ∃ x, x = nth xs k := ⟨_, rfl⟩
      obtain ⟨y, hey⟩ : ∃ y, y = nth ys k := ⟨_, rfl⟩
      rw [← hex] at hcx hx
      rw [← hey] at hcy hy
      obtain ⟨hi, hhi⟩ : ∃ hi, hi = y * t / W64 := ⟨_, rfl⟩
      obtain ⟨lo, hlo⟩ : ∃ lo, lo = y * t % W64 := ⟨_, rfl⟩
      obtain ⟨o1, ho1⟩ : ∃ o1, o1 = (lo + x) / W64 := ⟨_, rfl⟩
      obtain ⟨l1, hl1⟩ : ∃ l1, l1 = (lo + x) % W64 := ⟨_, rfl⟩
      obtain ⟨o2, ho2⟩ : ∃ o2, o2 = (l1 + d) / W64 := ⟨_, rfl⟩
      obtain ⟨l2, hl2⟩ : ∃ l2, l2 = (l1 + d) % W64 := ⟨_, rfl⟩
      obtain ⟨d', hd'⟩ : ∃ d', d' = hi + o1 + o2 := ⟨_, rfl⟩
      have hM : ∀ w, Calls Tryz.prog 96 #[.int .u64 (y : Int), .int .u64 (t : Int)] w _ := fun w => mul64 y t hy HT.out w
      rw [← hhi, ← hlo] at hM
      have hA1 : (callFunc 122 #[.int .u64 (lo : Int), .int .u64 (x : Int), .int .u64 0]).run Tryz.prog = _ := funext (fun w => add64_0 lo x w)
      rw [← ho1, ← hl1] at hA1
      have hA2 : (callFunc 122 #[.int .u64 (l1 : Int), .int .u64 (d : Int), .int .u64 0]).run Tryz.prog = _ := funext (fun w => add64_0 l1 d w)
      rw [← ho2, ← hl2] at hA2
      have hL := mul_limb W64_pos hhi hlo ho1 hl1 ho2 hl2
      rw [← hd'] at hL
      have hdw := mul_bound hy HT.out hx hd.out hL
      have H1 : Hid (nth (zs ++ [l2]) k = l2) := Lib.hid (nth_snoc _ _ _ hzl.out.symm)
      have H2 : Hid (vl W64 (zs ++ [l2]) (k + 1) + d' * W64 ^ (k + 1) = vl W64 xs (k + 1) + t * vl W64 ys (k + 1)) := Lib.hid (by
        rw [vl_succ, vl_succ, vl_succ, H1.out, ← hex, ← hey, vl_congr (xs := zs ++ [l2]) (ys := zs) (fun i hi => nth_append_lt _ _ _ (by rw [hzl.out]; exact hi))]
        exact mul_step hL hv.out)
      have H3 : Hid (∀ i, i < k + 1 → nth (zs ++ [l2]) i < W64) := Lib.hid (fun i hi => by
        by_cases hik : i = k
        · rw [hik, H1.out, hl2]; exact Nat.mod_lt _ W64_pos
        · rw [nth_append_lt _ _ _ (by rw [hzl.out]; omega)]; exact hzw.out i (by omega))
      have H4 := hp.snoc l2 k hzl.out
      have H5 : Hid ((zs ++ [l2]).length = k + 1) := Lib.hid (by simp [hzl.out])
      have hs1 : hi + o1 + o2 < 18446744073709551616 := by rw [← hd']; exact hdw
      have hs2 : hi + o1 < 18446744073709551616 := by omega
      have E1 : Hid (d' = hi + o1 + o2) := Lib.hid hd'
      have E2 : Hid (d' < W64) := Lib.hid hdw
      have HA1 := Lib.hid hA1
      have HA2 := Lib.hid hA2
      have HM := Lib.hid hM
      clear hA1 hA2 hM hhi hlo ho1 hl1 ho2 hl2 hex hey hv hzw hzl H1 hx hy hd hd' hdw hL
      have H6 := hr.set (off + k) (.int .u64 (l2 : Int))
      go_wp2_with (first | simp only [HA1.out] | simp only [HA2.out] | (go_at_call 96; refine (HM.out _).mono ?_; rintro e w' ⟨rfl, rfl⟩))
      go_roundw
      case rel => exact ⟨k + 1, d', zs ++ [l2], _, by omega, by go_num, by rw [E1.out]; go_num, E2, H5, H3, H6, H4, H2, grown_trans hg (grown_set _ _ _ _)⟩
      case measure => simp [intOf]; omega
    · obtain rfl : k = m := by omega
      go_wp2
      go_ret
      exact ⟨zs, f', d, rfl, hd.out, hzl.out, hzw.out, hr, hp, hv.out, hg⟩

/-! Plain mathematics: one row of a product. -/
theorem mul_row {β i m x c : Nat} (zs z2 : List Nat) (XI Y : Nat) (hl : zs.length = i + m) (h2 : z2.length = m) (hv : vl β zs (i + m) = XI * Y) (h : vl β z2 m + c * β ^ m = vl β (zs.drop i) m + x * Y) :
    vl β (zs.take i ++ (z2 ++ [c])) (i + 1 + m) = (XI + x * β ^ i) * Y := by
  have hti : (zs.take i).length = i := by rw [List.length_take]; omega
  have e1 : vl β (zs.take i ++ (z2 ++ [c])) (i + (m + 1)) = vl β zs i + β ^ i * (vl β z2 m + c * β ^ m) := by
    rw [vl_add, vl_congr (xs := zs.take i ++ (z2 ++ [c])) (ys := zs) (fun j hj => by rw [nth_append_lt _ _ _ (by omega), nth_take _ _ _ hj]),
      List.drop_append_of_le_length (by omega), List.drop_of_length_le (by omega), List.nil_append, vl_succ,
      vl_congr (xs := z2 ++ [c]) (ys := z2) (fun j hj => nth_append_lt _ _ _ (by omega)), nth_snoc _ _ _ h2.symm]
  rw [show i + 1 + m = i + (m + 1) by omega, e1, h, Nat.mul_add, ← Nat.add_assoc, ← vl_add, hv, Nat.add_mul, Nat.mul_left_comm, ← Nat.mul_assoc]
theorem part_join {k : IntKind} {f f1 f2 : Nat → Value} {i m : Nat} {zs z2 : List Nat} {c : Nat} (hl : zs.length = i + m) (h2 : z2.length = m) (p1 : Part k f f1 0 zs) (p2 : Part k f1 f2 i z2) :
    Part k f (fun j => if j = i + m then .int k (c : Int) else f2 j) 0 (zs.take i ++ (z2 ++ [c])) := by
  have hti : (zs.take i).length = i := by rw [List.length_take]; omega
  have hlen : (zs.take i ++ (z2 ++ [c])).length = i + (m + 1) := by rw [List.length_append, hti, List.length_append, h2]; rfl
  refine ⟨fun j hj => ?_, fun j hj => ?_⟩
  · rw [hlen] at hj
    rw [Nat.zero_add]
    by_cases h1 : j = i + m
    · subst h1
      simp only [if_true]
      rw [nth_append_ge _ _ _ (by omega), hti, nth_snoc _ _ _ (by omega)]
    · simp only [if_neg h1]
      by_cases h3 : j < i
      · rw [p2.old j (Or.inl h3), nth_append_lt _ _ _ (by omega), nth_take _ _ _ h3]
        have := p1.new j (by omega)
        rwa [Nat.zero_add] at this
      · rw [nth_append_ge _ _ _ (by omega), hti, nth_append_lt _ _ _ (by omega)]
        have := p2.new (j - i) (by omega)
        rwa [show i + (j - i) = j by omega] at this
  · rw [hlen] at hj
    have h1 : ¬ j = i + m := by omega
    simp only [if_neg h1]
    rw [p2.old j (by right; omega), p1.old j (by right; omega)]

set_option maxHeartbeats 400000 in
theorem natMul_range {B1 B2 : Nat} (p1 p2 : Option Addr) (l1 l2 c1 c2 : Nat) (xs ys : List Nat) (w : World) (h1 : l1 ≤ c1) (h2 : l2 ≤ c2) (k1 : l1 ≤ 1000000) (k2 : l2 ≤ 1000000)
    (r1 : Rd .u64 W64 B1 w p1 l1 xs) (r2 : Rd .u64 W64 B2 w p2 l2 ys) (hgt : 1024 < (digs W64 (val W64 xs)).length + (digs W64 (val W64 ys)).length) :
    Calls Tryz.prog 69 #[.slice p1 l1 c1, .slice p2 l2 c2] w (Fails w 7) := by
  have HG := Lib.hid hgt
  clear hgt
  go_enter Tryz.func69, Tryz.ntmps69
  go_wp2_with fail
  refine (trim_val p1 l1 c1 xs w h1 (by omega) r1).mono ?_
  rintro e w' ⟨q1, n1, rfl, hn1, hq1, hR1, rfl⟩
  go_wp2_with fail
  refine (trim_val p2 l2 c2 ys w h2 (by omega) r2).mono ?_
  rintro e w' ⟨q2, n2, rfl, hn2, hq2, hR2, rfl⟩
  have h3 : 1024 < n1 + n2 := by have := HG.out; rw [hR1.count, hR2.count] at this; exact this
  go_wp2
  go_ret2
  exact ⟨rfl, Below.refl _ _⟩

set_option maxHeartbeats 2000000 in
theorem natMul_any {B1 B2 : Nat} (p1 p2 : Option Addr) (l1 l2 c1 c2 : Nat) (xs ys : List Nat) (w : World) (h1 : l1 ≤ c1) (h2 : l2 ≤ c2) (k1 : l1 ≤ 1000000) (k2 : l2 ≤ 1000000)
    (r1 : Rd .u64 W64 B1 w p1 l1 xs) (r2 : Rd .u64 W64 B2 w p2 l2 ys) (hB1 : B1 ≤ w.heap.size) (hB2 : B2 ≤ w.heap.size) (hle : (digs W64 (val W64 xs)).length + (digs W64 (val W64 ys)).length ≤ 1024) :
    Calls Tryz.prog 69 #[.slice p1 l1 c1, .slice p2 l2 c2] w (Gives2 .u64 W64 w (val W64 xs * val W64 ys)) := by
  obtain ⟨x, hx⟩ : ∃ x, x = val W64 xs := ⟨_, rfl⟩
  obtain ⟨y, hy⟩ : ∃ y, y = val W64 ys := ⟨_, rfl⟩
  rw [← hx, ← hy] at hle ⊢
  have HL := Lib.hid hle
  have HX := Lib.hid hx
  have HY := Lib.hid hy
  clear hle hx hy
  go_enter Tryz.func69, Tryz.ntmps69
  go_wp2_with fail
  refine (trim_val p1 l1 c1 xs w h1 (by omega) r1).mono ?_
  rintro e w' ⟨q1, n1, rfl, hn1, hq1, hR1, rfl⟩
  go_wp2_with fail
  refine (trim_val p2 l2 c2 ys w h2 (by omega) r2).mono ?_
  rintro e w' ⟨q2, n2, rfl, hn2, hq2, hR2, rfl⟩
  rw [← HX.out] at hR1
  rw [← HY.out] at hR2
  replace hR1 := hR1.mono hB1
  replace hR2 := hR2.mono hB2
  clear r1 r2 HX HY hB1 hB2
  have h3 : n1 + n2 ≤ 1024 := by have := HL.out; rw [hR1.count, hR2.count] at this; exact this
  have hbig : (n1 : Int) + n2 ≤ 1024 := by omega
  clear HL
  go_wp2_with (at_make; refine wpl_make_nums Tryz.numTy64 rfl _ _ rfl _ _ _ _ (n1 + n2) rfl rfl (by omega) (by omega) (by omega) (by omega) ?_)
  intro w1 hrow hgrow
  have hb1 : Below w.heap.size w w1 := (Below.refl _ _).grown hgrow (Nat.le_refl _) (fun k hk => by simp at hk)
  have hR1' := hR1.below hb1
  have hR2' := hR2.below hb1
  obtain ⟨g, hg⟩ : ∃ g, g = w.heap.size := ⟨_, rfl⟩
  rw [← hg] at hrow hR1' hR2' ⊢
  have HG := Lib.hid hg
  clear hgrow hg
  have hgw := hrow.lt
  have hgs : g ≤ w1.heap.size := by omega
  have hB : w.heap.size ≤ g := by rw [HG.out]; exact Nat.le_refl _
  go_wp2_with fail
  go_loopw [28] (fun i wr => ∃ (k : Nat) (zs : List Nat) (f' : Nat → Value), k ≤ n1 ∧ i = .int .i64 k ∧ Hid (zs.length = k + n2) ∧ Hid (∀ i, i < k + n2 → nth zs i < W64) ∧ Row wr g 53 (n1 + n2) f' ∧ Part .u64 (fun _ => .int .u64 0) f' 0 zs ∧
      Hid (vl W64 zs (k + n2) = vl W64 (digs W64 x) k * y) ∧ w1.grownBy wr (some g)) (fun i _ => n1 - (intOf i).toNat)
  case atStart =>
    refine ⟨0, List.replicate n2 0, _, Nat.zero_le _, rfl, Lib.hid (by simp), Lib.hid (fun i hi => ?_), hrow, ⟨fun i hi => ?_, fun _ _ => rfl⟩, Lib.hid (by rw [vl_replicate, vl_zero]; simp), World.grownBy.refl _ _⟩
    · rw [nth_replicate]; have := W64_pos; split <;> omega
    · rw [nth_replicate]; split <;> rfl
  case round =>
    obtain ⟨k, zs, f', hk, rfl, hzl, hzw, hr, hp, hv, hgr⟩ := hrel
    by_cases hlt : k < n1
    · have hR2k := hR2'.grown hgr (Nat.le_refl _) hgs
      obtain ⟨b, o, rfl, hb, hcx⟩ := (hR1'.grown hgr (Nat.le_refl _) hgs).cell k hlt
      have ht := hR1'.word k hlt
      obtain ⟨t, het⟩ : ∃ t, t = nth (digs W64 x) k := ⟨_, rfl⟩
      rw [← het] at hcx ht
      have HT := Lib.hid ht
      have HET := Lib.hid het
      clear ht het
      have hk2 : (k : Int) + n2 ≤ 1024 := by omega
      have hk3 : (k : Int) + n2 < n1 + n2 := by omega
      go_wp2_with fail
      refine (addTimes_any g _ (n1 + n2) k n2 n2 _ n2 t f' q2 (zs.drop k) (digs W64 y) _ (Nat.le_refl _) (by omega) (by omega) HT.out hr (fun i hi => by
          rw [nth_drop]; have := hp.new (k + i) (by rw [hzl.out]; omega); rwa [Nat.zero_add] at this) (fun i hi => by rw [nth_drop]; exact hzw.out _ (by omega)) hR2k (Nat.le_refl _)).mono ?_
      rintro e w3 ⟨z2, f2, c, rfl, hc, hzl2, hzw2, hr2, hp2, hv2, hg2⟩
      have hfr := hr2.free (k + n2)
      have hcl := hr2.cell (k + n2) (by omega)
      have hti : (zs.take k).length = k := by rw [List.length_take, hzl.out]; omega
      have hy : vl W64 (digs W64 y) n2 = y := by rw [hR2.vl, val_digs two_le_W64]
      have H1 : Hid ((zs.take k ++ (z2 ++ [c])).length = k + 1 + n2) := Lib.hid (by rw [List.length_append, hti, List.length_append, hzl2]; simp; omega)
      have H2 : Hid (vl W64 (zs.take k ++ (z2 ++ [c])) (k + 1 + n2) = vl W64 (digs W64 x) (k + 1) * y) := Lib.hid (by
        rw [vl_succ, ← HET.out]
        exact mul_row zs z2 _ y hzl.out hzl2 hv.out (by rw [hv2, hy]))
      have H3 : Hid (∀ i, i < k + 1 + n2 → nth (zs.take k ++ (z2 ++ [c])) i < W64) := Lib.hid (fun i hi => by
        by_cases h1 : i < k
        · rw [nth_append_lt _ _ _ (by omega), nth_take _ _ _ h1]; exact hzw.out i (by omega)
        · rw [nth_append_ge _ _ _ (by omega), hti]
          by_cases h2 : i - k < n2
          · rw [nth_append_lt _ _ _ (by omega)]; exact hzw2 _ h2
          · rw [nth_snoc _ _ _ (by omega)]; exact hc)
      have H4 := part_join (c := c) hzl.out hzl2 hp hp2
      have H6 := hr2.set (k + n2) (.int .u64 (c : Int))
      have hgr3 := grown_trans hgr hg2
      clear hv2 hzw2 hzl2 hzw hzl hv hti hy hp hp2 HET hr
      go_wp2
      go_roundw
      case rel => exact ⟨k + 1, _, _, by omega, by go_num, H1, H3, H6, H4, H2, grown_trans hgr3 (grown_set _ _ _ _)⟩
      case measure => simp [intOf]; omega
    · obtain rfl : k = n1 := by omega
      have hrd : Rd .u64 W64 _ _ (some ⟨g, 0, none⟩) (k + n2) zs := hr.rd 0 (k + n2) zs hr.lt (by omega) hzl.out hzw.out (fun i hi => hp.new i (by rw [hzl.out]; exact hi))
      have hval : Hid (val W64 zs = x * y) := Lib.hid (by rw [← hrd.vl, hv.out, hR1.vl, val_digs two_le_W64])
      have hbel := hb1.grown hgr hb1.size (fun j hj => by simp at hj; omega)
      clear hv hzw hzl hp
      go_wp2_with fail
      refine (trim_val _ (k + n2) _ zs _ (Nat.le_refl _) (by omega) hrd).mono ?_
      rintro e w' ⟨q, n, rfl, hn, hq, hR, rfl⟩
      rw [hval.out] at hR
      go_wp2
      go_ret2
      exact ⟨q, n, n, rfl, Nat.le_refl _, hq, hR, hbel⟩
end Go.Proofs.YtndcaajebomkhaaGreatDoor
