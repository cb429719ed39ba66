/- The reference's Parse. -/
import Derived.Test.YtndcaajebomkhaaGreatDoorRefU
import Derived.Test.YtndcaajebomkhaaGreatDoorRefC
import Derived.Test.YtndcaajebomkhaaGreatDoorRefD
namespace Go.Proofs.YtndcaajebomkhaaGreatDoor
open Go.RowKit

theorem digs16_of_dec {x k m : Nat} (h : x < 10 ^ k) (hk : k ≤ 4 * m) : (digs 65536 x).length ≤ m := by
  refine (digs_length_le (by omega) x m).2 (Nat.lt_of_lt_of_le h ?_)
  refine Nat.le_trans (pow_step hk) ?_
  rw [Nat.pow_mul]
  exact Nat.pow_le_pow_left (by decide) m
theorem row_less {l : List UInt8} {k : Nat} (hd : ∀ c ∈ l.take k, isDig c) : decVal 0 (l.take k) < 10 ^ k := by
  have h1 := decVal_lt (k := 0) 0 (l.take k) hd (by simp)
  exact Nat.lt_of_lt_of_le h1 (pow_step (by rw [List.length_take]; omega))
theorem digit_step {l : List UInt8} {k d : Nat} (hk : k < l.length) (h : 48 + d = (l[k]).toNat) : decVal 0 (l.take k) * 10 + d = decVal 0 (l.take (k + 1)) := by
  rw [List.take_succ_eq_append_getElem hk, decVal_append, decVal_cons, decVal_nil, ← h]
  omega
theorem take_dig {l : List UInt8} {k : Nat} (hk : k < l.length) (h : ∀ c ∈ l.take k, isDig c) (hd : isDig l[k]) : ∀ c ∈ l.take (k + 1), isDig c := by
  intro c hc
  rw [List.take_succ_eq_append_getElem hk] at hc
  rcases List.mem_append.1 hc with hc | hc
  · exact h c hc
  · rw [List.mem_singleton.1 hc]; exact hd
/-- A slice of one number in a world at hand. -/
theorem cell_rd {k : IntKind} {β x g : Nat} {W : World} (h : W.cell? ⟨g, 0, none⟩ = some (.int k (x : Int))) (hx : x < β) : Rd k β W.heap.size W (some ⟨g, 0, none⟩) 1 [x] := by
  refine ⟨rfl, fun i hi => ?_, fun i hi => ?_⟩
  · obtain rfl : i = 0 := by omega
    rw [nth_cons_zero]; exact hx
  · obtain rfl : i = 0 := by omega
    exact ⟨_, _, rfl, World.block_lt_of_cell? W _ h, by rw [nth_cons_zero]; exact h⟩
/-- A text's digits stand behind its sign. -/
theorem digsOf_at (l : List UInt8) : ∃ off, off ≤ 1 ∧ (digsOf l).length + off = l.length ∧ (∀ i (h : i < (digsOf l).length) (h2 : i + off < l.length), (digsOf l)[i] = l[i + off]) ∧
    (Lib.hasPrefix l [45] = true → off = 1 ∧ ∀ h : 0 < l.length, l[0] = 45) ∧ (Lib.hasPrefix l [45] = false → off = 0 ∧ ∀ h : 0 < l.length, l[0] ≠ 45) := by
  cases l with
  | nil => exact ⟨0, by omega, rfl, (fun i h => by simp [digsOf, Lib.trimPrefix, hp_nil] at h), (fun h => by rw [hp_nil] at h; cases h), fun _ => ⟨rfl, fun h => by simp at h⟩⟩
  | cons c r =>
    by_cases hc : c = 45
    · subst hc
      refine ⟨1, by omega, by rw [digsOf_minus]; rfl, fun i h h2 => ?_, fun _ => ⟨rfl, fun _ => rfl⟩, fun h => ?_⟩
      · simp [digsOf_minus]
      · rw [hp_cons] at h; simp at h
    · have hf : Lib.hasPrefix (c :: r) [45] = false := by rw [hp_cons]; exact beq_eq_false_iff_ne.2 (fun e => hc e.symm)
      refine ⟨0, by omega, by rw [digsOf_plain hf]; rfl, fun i h h2 => ?_, fun h => (by rw [hf] at h; cases h), fun _ => ⟨rfl, fun _ => hc⟩⟩
      simp [digsOf_plain hf]
/-- What the reference's Parse tells of a text. -/
def Told (l : List UInt8) (w : World) (e : Ending) (w' : World) : Prop :=
  Below w.heap.size w w' ∧ ((okText l ∧ ∃ v, e = .returned (.tuple #[v, .bool true]) ∧ NumN w' v (wv (Lib.hasPrefix l [45]) (decVal 0 (digsOf l)))) ∨ (¬ okText l ∧ e = .returned (.tuple #[.agg #[.bool false, .slice none 0 0], .bool false])))
theorem not_ok_at {l : List UInt8} {i : Nat} (h : i < (digsOf l).length) (hd : ¬ isDig (digsOf l)[i]) : ¬ okText l := fun ⟨_, _, h3⟩ => hd (h3 _ (List.getElem_mem h))
set_option maxRecDepth 100000 in
set_option maxHeartbeats 4000000 in
theorem refParse_any (l : List UInt8) (w : World) (hl : l.length ≤ 400) :
    Calls Tryz.prog 12 #[.string ⟨l.toArray⟩] w (Told l w) := by
  obtain ⟨off, hoff, hlen, hat, hyes, hno⟩ := digsOf_at l
  obtain ⟨s, hs⟩ : ∃ s : ByteArray, s = ⟨l.toArray⟩ := ⟨_, rfl⟩
  have hsz : s.size = l.length := by rw [hs]; simp [ByteArray.size]
  have hget : Hid (∀ i (h : i < s.size), (s[i]'h).toNat = nth (l.map UInt8.toNat) i) := Lib.hid (fun i h => by
    have h2 : i < l.length := by omega
    subst hs
    rw [nth_lt _ _ (by simpa using h2)]
    simp [ByteArray.getElem_eq_getElem_data])
  have HNO := Lib.hid (fun (i : Nat) (h : i < (digsOf l).length) (hd : ¬ isDig (digsOf l)[i]) => not_ok_at h hd)
  have HOK := Lib.hid (fun h : okText l => ok_text h)
  have HTX := Lib.hid (fun z (h : textB z = l) => (h ▸ text_ok z : okText l))
  have HSL := Lib.hid hs
  rw [← hs]
  obtain ⟨n, hn⟩ : ∃ n, n = l.length := ⟨_, rfl⟩
  obtain ⟨hp, hhp⟩ : ∃ hp, hp = Lib.hasPrefix l [45] := ⟨_, rfl⟩
  rw [← hhp] at hyes hno
  rw [← hn] at hsz hl hlen
  have HN := Lib.hid hn
  have HHP := Lib.hid hhp
  have HAT := Lib.hid hat
  have HYES := Lib.hid hyes
  have HNOT := Lib.hid hno
  obtain ⟨ds, hds⟩ : ∃ ds, ds = digsOf l := ⟨_, rfl⟩
  have HDS := Lib.hid hds
  rw [← hds] at hlen HAT HNO
  clear hs hn hhp hat hyes hno hds
  go_enter Tryz.func12, Tryz.ntmps12
  go_wp2_with fail
  have hal : Below w.heap.size w (w.alloc (.cells #[.bool false, .slice none 0 0] 28)) := (Below.refl _ _).alloc (Nat.le_refl _) _
  have tZ := Two.new w (.bool false) (.slice none 0 0) 28
  obtain ⟨W0, hW0⟩ : ∃ W0, W0 = w.alloc (.cells #[.bool false, .slice none 0 0] 28) := ⟨_, rfl⟩
  rw [← hW0] at hal tZ ⊢
  clear hW0
  go_loopw [4, 5, 6] (fun s4 s5 s6 wr => ∃ (k : Nat) (nb : Bool) (q : Option Addr) (m c : Nat), k ≤ n ∧ s6 = .int .i64 (k : Int) ∧ s5 = .bool nb ∧ Hid (nb = (decide (0 < k) && hp)) ∧ s4 = .slice q m c ∧ m ≤ c ∧ (q = none → c = 0) ∧
      Hid (∀ x ∈ ds.take (k - off), isDig x) ∧ Rd .u32 65536 wr.heap.size wr q m (digs 65536 (decVal 0 (ds.take (k - off)))) ∧ Two wr w.heap.size (.bool false) (.slice none 0 0) 28 ∧ Below w.heap.size w wr) (fun _ _ s6 _ => n - (intOf s6).toNat)
  case atStart => exact ⟨0, false, none, 0, 0, Nat.zero_le _, rfl, rfl, Lib.hid rfl, rfl, Nat.le_refl _, fun _ => rfl, Lib.hid (by simp), by rw [Nat.zero_sub, List.take_zero, decVal_nil, digs_zero]; exact Rd.nil _ _ _ _ _, tZ, hal⟩
  case round =>
    clear hal tZ
    obtain ⟨k, nb, q, m, c, hk, rfl, rfl, hnb, rfl, hmc, hq, hdd, hR, tZ, hW⟩ := hrel
    by_cases hlt : k < n
    · have hg := hget.out k (by omega)
      have hkl : k < l.length := by have := HN.out; omega
      obtain ⟨b, hb⟩ : ∃ b, b = nth (l.map UInt8.toNat) k := ⟨_, rfl⟩
      have hbl : b = (l[k]).toNat := by rw [hb, nth_lt _ _ (by simpa using hkl)]; simp
      rw [← hb] at hg
      have hb256 : b < 256 := by rw [hbl]; exact UInt8.toNat_lt _
      have hltz : (k : Int) < n := by omega
      have HB := Lib.hid hbl
      clear hb hbl
      by_cases hsg : k = 0 ∧ hp = true
      · -- the sign
        obtain ⟨rfl, rfl⟩ := hsg
        have hb45 : b = 45 := by rw [HB.out, (HYES.out rfl).2 (by omega)]; rfl
        subst hb45
        obtain rfl : off = 1 := (HYES.out rfl).1
        go_wp2
        go_roundw
        case rel => exact ⟨1, true, q, m, c, by omega, by go_num, rfl, Lib.hid (by simp), rfl, hmc, hq, hdd, hR, tZ, hW⟩
        case measure => simp [intOf] <;> omega
      · have hoffk : off ≤ k := by
          by_cases hp1 : hp = true
          · have : ¬ k = 0 := fun h => hsg ⟨h, hp1⟩
            omega
          · have := (HNOT.out (by simpa using hp1)).1
            omega
        have hjl : k - off < ds.length := by omega
        have hat : ds[k - off] = l[k] := by
          have h1 := HAT.out (k - off) hjl (by have := HN.out; omega)
          rw [h1]
          congr 1
          omega
        have hz : k = 0 ∧ ¬ (b : Int) = 45 ∨ ¬ (k : Int) = 0 := by
          by_cases h0 : k = 0
          · subst h0
            left
            refine ⟨rfl, fun h => ?_⟩
            have hpf : hp = false := by
              cases hh : hp with
              | true => exact absurd ⟨rfl, hh⟩ hsg
              | false => rfl
            have h2 := (HNOT.out hpf).2 (by omega)
            have h3 := HB.out
            exact h2 (UInt8.toNat_inj.1 (by rw [← h3]; show b = 45; omega))
          · right; omega
        by_cases hdig : 48 ≤ b ∧ b ≤ 57
        · obtain ⟨h48, h57⟩ := hdig
          have e2 : ¬ (b : Int) < 48 := by omega
          have e3 : ¬ (57 : Int) < b := by omega
          have hko : k + 1 - off = k - off + 1 := by omega
          have HDN : Hid (∀ x ∈ ds.take (k + 1 - off), isDig x) := Lib.hid (by rw [hko]; exact take_dig hjl hdd.out (by rw [hat]; exact ⟨by rw [← HB.out]; exact h48, by rw [← HB.out]; exact h57⟩))
          obtain ⟨j, hj⟩ : ∃ j, j = k - off := ⟨_, rfl⟩
          have hkn400 : j < 400 := by omega
          have hnb' : Hid (nb = (decide (0 < k + 1) && hp)) := Lib.hid (by
            rw [hnb.out]
            by_cases h0 : k = 0
            · have : hp = false := by
                cases hh : hp with
                | true => exact absurd ⟨h0, hh⟩ hsg
                | false => rfl
              rw [this, Bool.and_false, Bool.and_false]
            · rw [decide_eq_true (show 0 < k by omega), decide_eq_true (show 0 < k + 1 by omega)])
          obtain ⟨d, hdb⟩ : ∃ d, b = 48 + d := ⟨b - 48, by omega⟩
          subst hdb
          have hd9 : d ≤ 9 := by omega
          have hx1 : m ≤ 101 := by
            have h1 := digs16_of_dec (m := 101) (row_less (l := ds) (k := k - off) hdd.out) (by omega)
            have := hR.count
            omega
          have hx2 : (digs 65536 (decVal 0 (ds.take (k - off)) * 10)).length ≤ 102 := digs16_of_dec (k := k - off + 1) (by rw [Nat.pow_succ]; exact Nat.mul_lt_mul_of_pos_right (row_less hdd.out) (by omega)) (by omega)
          have HX2 := Lib.hid hx2
          have HST : Hid (decVal 0 (ds.take (k - off)) * 10 + d = decVal 0 (ds.take (k + 1 - off))) := Lib.hid (by rw [hko]; exact digit_step hjl (d := d) (by rw [hat]; exact HB.out))
          have hwr : IntKind.u32.wrap (IntKind.u8.wrap (48 + (d : Int) - 48)) = (d : Int) := by
            have h0 : d = 0 ∨ d = 1 ∨ d = 2 ∨ d = 3 ∨ d = 4 ∨ d = 5 ∨ d = 6 ∨ d = 7 ∨ d = 8 ∨ d = 9 := by omega
            clear hg h48 h57 e2 e3 HB HST hz hat hb256
            rcases h0 with rfl | rfl | rfl | rfl | rfl | rfl | rfl | rfl | rfl | rfl <;> rfl
          clear hx2 hat hsg hdd hjl hnb
          rcases hz with ⟨rfl, hne⟩ | hne
          all_goals
            go_upto_region 10 with fail
            have hS := Below.refl wr.heap.size wr
            go_region_held3 (fun w' => Below wr.heap.size wr w')
              (first | assumption | exact Below.refl _ _ | exact below_next (by assumption) hb | exact below_next (by assumption) bal | exact kd (by assumption))
              (first
                | (go_at_call 38; refine (refMul_any q _ m 1 c 1 _ [10] _ hmc (Nat.le_refl _) (by omega) (by omega) (hR.next (by assumption)) (cell_rd (by simp [go_sem]) (by omega)) (Nat.le_refl _) (Nat.le_refl _)).mono ?_; rintro e W1 ⟨q3, m3, c3, rfl, hm3, hq3, hR3, hb⟩; rw [val_digs (by omega), val_single] at hR3; have hm3l : m3 ≤ 102 := (by have := hR3.count; have := HX2.out; omega))
                | (go_at_call 37; refine (refAdd_any q3 _ m3 1 c3 1 _ [d] _ (by omega) (by omega) (by first | exact hR3 | exact hR3.next bal | exact hR3.next (kd (Below.refl _ _)) | exact (hR3.next (kd (Below.refl _ _))).next bal | exact (hR3.next bal).next (kd (Below.refl _ _))) (cell_rd (by first | (simp [go_sem]; done) | exact kp hb (by simp [go_sem])) (by omega)) (Nat.le_refl _) (Nat.le_refl _)).mono ?_; rintro e W2 ⟨q5, m5, c5, rfl, hm5, hq5, hR5, hb⟩; rw [val_digs (by omega), val_single, HST.out] at hR5))
            all_goals
              have hfin : Below wr.heap.size wr W2 := by assumption
              have tZ2 := tZ.next hfin
              have hW2 := below_next hW hfin
              clear hfin hS hR tZ hW
              go_wp2
              go_roundw
              case rel => exact ⟨_, nb, q5, m5, c5, by omega, by go_num, rfl, hnb', rfl, hm5, hq5, HDN, hR5, tZ2, hW2⟩
              case measure => simp [intOf] <;> omega
        · have hnd : ¬ isDig ds[k - off] := by rw [hat]; exact fun h => hdig ⟨by rw [HB.out]; exact h.1, by rw [HB.out]; exact h.2⟩
          have HBAD := Lib.hid (HNO.out (k - off) hjl hnd)
          have hr := (tZ.set0 (.bool false)).set1 (.slice none 0 0)
          have hbd : (b : Int) < 48 ∨ ¬ (b : Int) < 48 ∧ (57 : Int) < b := by omega
          have hf0 := tZ.f0
          have hf1 := tZ.f1
          have hc0 := tZ.c0
          have hc1 := tZ.c1
          have r0 := hr.c0
          have r1 := hr.c1
          have hW2 := below_set2 (u := .bool false) (v := .slice none 0 0) hW (Nat.le_refl _)
          clear hnd hat hsg hdig hR hdd HAT HOK HTX HSL HDS
          rcases hz with ⟨rfl, hne⟩ | hne <;> rcases hbd with hbd | ⟨hbd, hbd'⟩
          all_goals
            go_wp2
            exact bodyPost_ret (v := .tuple #[.agg #[.bool false, .slice none 0 0], .bool false]) (by simp [results, Tryz.results12, go_sem, r0, r1]) rfl ⟨hW2, Or.inr ⟨HBAD.out, rfl⟩⟩
    · obtain rfl : k = n := by omega
      have hds : ds.take (k - off) = ds := List.take_of_length_le (by omega)
      obtain ⟨K, hK⟩ : ∃ K, K = ds.length + 1 := ⟨_, rfl⟩
      have hK1 : K ≤ 401 := by omega
      have hK0 : 0 < K := by omega
      have hdv : decVal 0 ds < 10 ^ K := by
        have h1 := decVal_lt (k := 0) 0 ds (by rw [← hds]; exact hdd.out) (by simp)
        exact Nat.lt_of_lt_of_le h1 (pow_step (by omega))
      rw [hds] at hR
      have hm1 : m ≤ 401 := by
        have h1 := digs16_of_dec (m := 401) hdv (by omega)
        have := hR.count
        omega
      have hnbp : Hid (wv nb (decVal 0 ds) = wv hp (decVal 0 ds)) := Lib.hid (by
        rw [hnb.out]
        by_cases h0 : 0 < k
        · rw [decide_eq_true h0, Bool.true_and]
        · have h2 : ds = [] := List.eq_nil_of_length_eq_zero (by omega)
          rw [h2, decVal_nil, wv_zero, wv_zero])
      obtain ⟨x, hx⟩ : ∃ x, x = decVal 0 ds := ⟨_, rfl⟩
      rw [← hx] at hR hdv hnbp
      have HX := Lib.hid hx
      have HDV := Lib.hid hdv
      have hkz : ¬ (9999 : Int) < k := by omega
      clear hx hds hdv hdd hlt HAT HNO HYES HNOT hget
      go_wp2_with fail
      refine (refNewN_any nb q m c (digs 65536 x) wr hmc (by omega) hR (Nat.le_refl _) (x := x) (val_digs (by omega) _) hq).mono ?_
      rintro e w1 ⟨v, rfl, hv, hb⟩
      replace tZ := tZ.next hb
      replace hW := below_next hW hb
      rw [hnbp.out] at hv
      obtain ⟨z, hzd⟩ : ∃ z, z = wv hp x := ⟨_, rfl⟩
      rw [← hzd] at hv
      have hza : z.natAbs < 10 ^ K := by rw [hzd, wv_abs]; exact HDV.out
      have HZA := Lib.hid hza
      have HZD := Lib.hid hzd
      clear hb hR hzd hza hnb hnbp hq hmc hm1
      obtain ⟨qv, mv, cv, rfl⟩ := hv.num.parts
      go_wp2_with fail
      have tN := Two.new w1 (.bool (decide (z < 0))) (.slice qv mv cv) 28
      have hal : Below w1.heap.size w1 (w1.alloc (.cells #[.bool (decide (z < 0)), .slice qv mv cv] 28)) := (Below.refl _ _).alloc (Nat.le_refl _) _
      obtain ⟨w2, hw2⟩ : ∃ w2, w2 = w1.alloc (.cells #[.bool (decide (z < 0)), .slice qv mv cv] 28) := ⟨_, rfl⟩
      have hsz2 : w2.heap.size = w1.heap.size + 1 := by rw [hw2]; simp
      rw [← hw2] at hal tN ⊢
      clear hw2
      replace hv := hv.next hal
      replace tZ := tZ.next hal
      replace hW := below_next hW hal
      clear hal
      refine (refText_any _ z w2 hv (Nat.le_trans (digs16_of_dec (m := 101) HZA.out (by omega)) (by omega)) (Nat.le_trans (dec_length_le HZA.out hK0) (by omega))).mono ?_
      rintro e w3 ⟨rfl, hb⟩
      replace hv := hv.next hb
      replace tZ := tZ.next hb
      replace tN := tN.next hb
      replace hW := below_next hW hb
      clear hb
      by_cases heq : textB z = l
      · have hok := HTX.out z heq
        rw [heq, ← HSL.out]
        have n0 := tN.c0
        have n1 := tN.c1
        have hf0 := tZ.f0
        have hf1 := tZ.f1
        have hc0 := tZ.c0
        have hc1 := tZ.c1
        have hr := (tZ.set0 (.bool (decide (z < 0)))).set1 (.slice qv mv cv)
        have r0 := hr.c0
        have r1 := hr.c1
        have hW2 := below_set2 (u := .bool (decide (z < 0))) (v := .slice qv mv cv) hW (Nat.le_refl _)
        obtain ⟨qv', mv', cv', hvv, hv1, hv2, hv3⟩ := hv
        simp only [Value.agg.injEq, Array.mk.injEq, List.cons.injEq, Value.slice.injEq, true_and, and_true] at hvv
        obtain ⟨rfl, rfl, rfl⟩ := hvv
        have hv := NumN.set2 (z := z) hv1 hv2 hv3 tZ (.bool (decide (z < 0))) (.slice qv mv cv)
        clear hv1 hv2 hv3
        have HOKK := Lib.hid hok
        have HZZ : Hid (z = wv (Lib.hasPrefix l [45]) (decVal 0 (digsOf l))) := Lib.hid (by rw [HZD.out, HX.out, HDS.out, HHP.out])
        have HV := Lib.hid hv
        clear hok heq HOK HTX HSL HDS HX HZD HZA HDV hv
        go_wp2
        exact bodyPost_ret (v := .tuple #[.agg #[.bool (decide (z < 0)), .slice qv mv cv], .bool true]) (by simp [results, Tryz.results12, go_sem, r0, r1]) rfl ⟨hW2, Or.inl ⟨HOKK.out, _, rfl, by rw [← HZZ.out]; exact HV.out⟩⟩
      · have hno : ¬ okText l := fun h => heq (by rw [HZD.out, HX.out, HDS.out, HHP.out]; exact (HOK.out h).symm)
        have HNOK := Lib.hid hno
        have hne : ((⟨(textB z).toArray⟩ : ByteArray).toList == s.toList) = false := by
          rw [HSL.out]
          simp
          exact heq
        have n0 := tN.c0
        have n1 := tN.c1
        have hf0 := tZ.f0
        have hf1 := tZ.f1
        have hc0 := tZ.c0
        have hc1 := tZ.c1
        have hr := (tZ.set0 (.bool false)).set1 (.slice none 0 0)
        have r0 := hr.c0
        have r1 := hr.c1
        have hW2 := below_set2 (u := .bool false) (v := .slice none 0 0) hW (Nat.le_refl _)
        obtain ⟨tx, htx⟩ : ∃ tx : ByteArray, tx = ⟨(textB z).toArray⟩ := ⟨_, rfl⟩
        rw [← htx] at hne ⊢
        clear hno heq HOK HTX HSL HDS HX HZD HZA HDV hv htx
        go_wp2
        all_goals exact bodyPost_ret (v := .tuple #[.agg #[.bool false, .slice none 0 0], .bool false]) (by simp [results, Tryz.results12, go_sem, r0, r1]) rfl ⟨hW2, Or.inr ⟨HNOK.out, rfl⟩⟩
end Go.Proofs.YtndcaajebomkhaaGreatDoor
