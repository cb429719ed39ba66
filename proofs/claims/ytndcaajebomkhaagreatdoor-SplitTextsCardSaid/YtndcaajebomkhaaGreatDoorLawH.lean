/- SplitTexts, the law's walk: texts of numbers, and numbers of texts, are the document's. -/
import Derived.Test.YtndcaajebomkhaaGreatDoorRefP
import Derived.Test.YtndcaajebomkhaaGreatDoorTextD
import Derived.Test.YtndcaajebomkhaaGreatDoorAwakeC
import Derived.Test.YtndcaajebomkhaaGreatDoorAs
namespace Go.Proofs.YtndcaajebomkhaaGreatDoor
open Go.RowKit

theorem text_len20 {z : Int} (h : z.natAbs < W64 ^ 20) : (textB z).length ≤ 400 := by
  have h5 : W64 ^ 5 < 10 ^ 97 := by unfold W64; decide
  obtain ⟨A, hA⟩ : ∃ A, A = 97 := ⟨_, rfl⟩
  rw [← hA] at h5
  have h20 : z.natAbs < 10 ^ (A * 4) := by
    rw [Nat.pow_mul]
    refine Nat.lt_of_lt_of_le h ?_
    rw [show (20 : Nat) = 5 * 4 from rfl, Nat.pow_mul]
    exact Nat.pow_le_pow_left (Nat.le_of_lt h5) 4
  have h1 := dec_length_le h20 (by omega)
  unfold textB
  rw [List.length_append]
  split
  · simp; omega
  · simp; omega
theorem refDigs_of_text {z : Int} (h : (textB z).length ≤ 400) : (digs 65536 z.natAbs).length ≤ 900000 ∧ (digs W64 z.natAbs).length ≤ 900000 := by
  have h1 : (Lib.decDigits z.natAbs).length ≤ 400 := by
    unfold textB at h
    rw [List.length_append] at h
    omega
  have h2 : z.natAbs < 10 ^ (Lib.decDigits z.natAbs).length := by
    have := decVal_lt (k := 0) 0 (Lib.decDigits z.natAbs) (dec_digs _) (by simp)
    rw [dec_val] at this
    exact Nat.lt_of_lt_of_le this (pow_step (by omega))
  have h3 := digs16_of_dec (m := 100) h2 (by omega)
  refine ⟨by omega, ?_⟩
  obtain ⟨A, hA⟩ : ∃ A, A = 100 := ⟨_, rfl⟩
  have h4 : z.natAbs < W64 ^ A := by
    refine Nat.lt_of_lt_of_le h2 (Nat.le_trans (pow_step (m := 4 * A) (by omega)) ?_)
    rw [Nat.pow_mul]
    exact Nat.pow_le_pow_left (by unfold W64; decide) _
  exact len_of h4 (by omega)
theorem text_back (z : Int) : wv (Lib.hasPrefix (textB z) [45]) (decVal 0 (digsOf (textB z))) = z := by
  obtain ⟨h1, h2⟩ := text_parts z
  rw [h1, h2, dec_val, wv_self]
theorem plain_nil (w : World) : PlainAt w (.agg #[.bool false, .slice none 0 0]) 0 := ⟨none, 0, 0, rfl, Nat.le_refl _, by rw [show (0 : Int).natAbs = 0 from rfl, digs_zero]; exact Rd.nil _ _ _ _ _⟩
theorem parse_text (z : Int) (w : World) (hl : (textB z).length ≤ 400) :
    Calls Tryz.prog 8 #[.string ⟨(textB z).toArray⟩] w fun e w' => ∃ q m c, e = .returned (.tuple #[.agg #[.bool (decide (z < 0)), .slice q m c], .nilIface]) ∧ PlainAt w' (.agg #[.bool (decide (z < 0)), .slice q m c]) z ∧ Below w.heap.size w w' := by
  refine (parse_yes (textB z) w hl (text_ok z)).mono ?_
  obtain ⟨h1, h2⟩ := text_parts z
  rw [h1, h2, dec_val]
  rintro e w' ⟨q, m, c, rfl, hmc, _, hR, hb⟩
  exact ⟨q, m, c, rfl, ⟨q, m, c, rfl, hmc, hR⟩, hb⟩
theorem refParse_text (z : Int) (w : World) (hl : (textB z).length ≤ 400) :
    Calls Tryz.prog 12 #[.string ⟨(textB z).toArray⟩] w fun e w' => ∃ v, e = .returned (.tuple #[v, .bool true]) ∧ NumN w' v z ∧ Below w.heap.size w w' := by
  refine (refParse_any (textB z) w hl).mono ?_
  rintro e w' ⟨hb, h | h⟩
  · obtain ⟨_, v, rfl, hv⟩ := h
    rw [text_back] at hv
    exact ⟨v, rfl, hv, hb⟩
  · exact absurd (text_ok z) h.1
theorem refParse_bad (l : List UInt8) (w : World) (hl : l.length ≤ 400) (hno : ¬ okText l) :
    Calls Tryz.prog 12 #[.string ⟨l.toArray⟩] w fun e w' => e = .returned (.tuple #[.agg #[.bool false, .slice none 0 0], .bool false]) ∧ Below w.heap.size w w' := by
  refine (refParse_any l w hl).mono ?_
  rintro e w' ⟨hb, h | h⟩
  · exact absurd h.1 hno
  · obtain ⟨_, rfl⟩ := h
    exact ⟨rfl, hb⟩
set_option maxRecDepth 100000 in
set_option maxHeartbeats 8000000 in
theorem splitTexts_walk (n : Bool) (q : Option Addr) (m c : Nat) (xs : List Nat) (l : List UInt8) (w : World) (h1 : m ≤ c)
    (hR : Rd .u64 W64 w.heap.size w q m xs) (hT : TabVar w) (hP : PowVar w) (hg : ErrVar w) :
    Calls Tryz.prog 3 #[.agg #[.bool n, .slice q m c], .string ⟨l.toArray⟩] w fun e w' => e = .returned (.bool true) ∧ Below w.heap.size w w' := by
  obtain ⟨W0, hW0, hW, tA⟩ := enter1 w (.bool n) (.slice q m c) 24
  obtain ⟨s, hs⟩ : ∃ s : ByteArray, s = ⟨l.toArray⟩ := ⟨_, rfl⟩
  have hsz : s.size = l.length := by rw [hs]; simp [ByteArray.size]
  have HS := Lib.hid hs
  rw [← hs]
  clear hs
  have HA := Lib.hid (awakeC_any W0 (hT.below hW) (hP.below hW))
  by_cases b1 : 20 < m
  · go_enter Tryz.func3, Tryz.ntmps3
    go_wp2_with fail
    rw [← hW0]
    clear hW0
    refine (HA.out).mono ?_
    rintro e w1 ⟨rfl, hb1⟩
    have c1 := (tA.next hb1).c1
    go_wp2
    go_ret
    exact ⟨rfl, below_next hW hb1⟩
  by_cases b2 : 400 < s.size
  · have b2z : (400 : Int) < s.size := by omega
    go_enter Tryz.func3, Tryz.ntmps3
    go_wp2_with fail
    rw [← hW0]
    clear hW0
    refine (HA.out).mono ?_
    rintro e w1 ⟨rfl, hb1⟩
    have c1 := (tA.next hb1).c1
    go_wp2
    go_ret
    exact ⟨rfl, below_next hW hb1⟩
  have a1 : m ≤ 20 := by omega
  have a2 : l.length ≤ 400 := by omega
  have b2z : ¬ (400 : Int) < s.size := by omega
  clear b1 b2
  obtain ⟨z, hz⟩ : ∃ z, wv n (val W64 xs) = z := ⟨_, rfl⟩
  have bz : Hid (z.natAbs < W64 ^ 20) := Lib.hid (by rw [← hz, wv_abs]; exact hR.val_lt W64_pos a1)
  have HL := Lib.hid (text_len20 bz.out)
  have HZ := Lib.hid hz
  have HSZ := Lib.hid hsz
  replace hR := hR.next hW
  replace hT := hT.below hW
  replace hP := hP.below hW
  replace hg := hg.below hW
  have iA : IntAt W0 (.agg #[.bool n, .slice q m c]) 900000 z := ⟨n, q, m, c, xs, rfl, h1, by omega, hR, hz⟩
  clear hz hsz
  go_enter Tryz.func3, Tryz.ntmps3
  go_wp2_with fail
  rw [← hW0]
  clear hW0
  refine (HA.out).mono ?_
  rintro e w1 ⟨rfl, hb⟩
  replace hR := hR.next hb
  replace hP := hP.below hb
  replace hg := hg.below hb
  replace iA := iA.next hb
  replace tA := tA.next hb
  replace hW := below_next hW hb
  clear hb hT HA
  have c0 := tA.c0; have c1 := tA.c1
  go_wp2_with fail
  refine (refFromN_any _ z w1 iA).mono ?_
  rintro e w2 ⟨vx, rfl, pX, hb⟩
  replace hR := hR.next hb
  replace hP := hP.below hb
  replace hg := hg.below hb
  replace tA := tA.next hb
  replace hW := below_next hW hb
  clear hb c0 c1 iA
  have c0 := tA.c0; have c1 := tA.c1
  obtain ⟨qx, mx, cx, rfl⟩ := pX.num.parts
  have c0a : (w2.alloc (.cells #[.bool (decide (z < 0)), .slice qx mx cx] 28)).cell? ⟨w.heap.size, 0, none⟩ = some (.bool n) := kal c0
  have c1a : (w2.alloc (.cells #[.bool (decide (z < 0)), .slice qx mx cx] 28)).cell? ⟨w.heap.size, 1, none⟩ = some (.slice q m c) := kal c1
  have tX := Two.new w2 (.bool (decide (z < 0))) (.slice qx mx cx) 28
  have hal : Below w2.heap.size w2 (w2.alloc (.cells #[.bool (decide (z < 0)), .slice qx mx cx] 28)) := bal
  obtain ⟨X, hX⟩ : ∃ X, X = w2.heap.size := ⟨_, rfl⟩
  rw [← hX] at tX
  go_wp2_with fail
  obtain ⟨w3, hw3⟩ : ∃ w3, w3 = w2.alloc (.cells #[.bool (decide (z < 0)), .slice qx mx cx] 28) := ⟨_, rfl⟩
  rw [← hw3] at tX hal ⊢
  rw [← hX]
  clear c0 c1 c0a c1a hw3 hX
  replace hR := hR.next hal
  replace pX := pX.next hal
  replace hP := hP.below hal
  replace hg := hg.below hal
  replace hW := below_next hW hal
  clear hal tA
  refine (text_any n q m c xs w3 h1 (by omega) hR hP HZ.out).mono ?_
  rintro e w4 ⟨rfl, hb⟩
  replace pX := pX.next hb
  replace hP := hP.below hb
  replace hg := hg.below hb
  replace tX := tX.next hb
  replace hW := below_next hW hb
  clear hb hR
  have x0 := tX.c0; have x1 := tX.c1
  go_wp2_with fail
  refine (parse_text z w4 HL.out).mono ?_
  rintro e w5 ⟨qb, mb, cb, rfl, pB, hb⟩
  replace pX := pX.next hb
  replace hg := hg.below hb
  replace tX := tX.next hb
  replace hW := below_next hW hb
  clear hb x0 x1 hP
  have x0 := tX.c0; have x1 := tX.c1
  go_wp2_with fail
  have tB := Two.new w5 (.bool (decide (z < 0))) (.slice qb mb cb) 24
  have hal : Below w5.heap.size w5 (w5.alloc (.cells #[.bool (decide (z < 0)), .slice qb mb cb] 24)) := bal
  obtain ⟨Y, hY⟩ : ∃ Y, Y = w5.heap.size := ⟨_, rfl⟩
  obtain ⟨w6, hw6⟩ : ∃ w6, w6 = w5.alloc (.cells #[.bool (decide (z < 0)), .slice qb mb cb] 24) := ⟨_, rfl⟩
  rw [← hw6] at tB hal ⊢
  rw [← hY] at tB ⊢
  clear hw6
  replace pX := pX.next hal
  replace pB := pB.next hal
  replace hg := hg.below hal
  replace tX := tX.next hal
  replace hW := below_next hW hal
  clear hal x0 x1 hY
  have x0 := tX.c0; have x1 := tX.c1
  have y0 := tB.c0; have y1 := tB.c1
  have hS := Below.refl w6.heap.size w6
  have hdl : (digs 65536 z.natAbs).length ≤ 100000 := by have := num_len (k := 80) bz.out rfl; omega
  have hdl2 : (digs W64 z.natAbs).length ≤ 900000 := len_of bz.out (by omega)
  have hdc : (Lib.decDigits z.natAbs).length ≤ 1000000000 := by
    have h1 := HL.out
    unfold textB at h1
    rw [List.length_append] at h1
    omega
  clear tX
  go_region_held3 (fun w' => Below w6.heap.size w6 w' ∧ w'.cell? ⟨X, 0, none⟩ = some (.bool (decide (z < 0))) ∧ w'.cell? ⟨X, 1, none⟩ = some (.slice qx mx cx) ∧ w'.cell? ⟨Y, 0, none⟩ = some (.bool (decide (z < 0))) ∧ w'.cell? ⟨Y, 1, none⟩ = some (.slice qb mb cb))
    (((try go_split_ands); ((repeat' apply And.intro) <;> first | assumption | exact below_next (by assumption) hb | exact below_next (by assumption) bal | exact kd (by assumption) | exact kp hb (by assumption) | exact kal (by assumption) | exact kdc (by assumption))))
    (first
      | (go_at_call 9; (try go_split_ands); refine (refText_any _ z _ (pX.next (by assumption)) hdl hdc).mono ?_; rintro e W1 ⟨rfl, hb⟩)
      | (go_at_call 11; (try go_split_ands); refine (refTo_any _ z _ (pX.num.next (by assumption)) (by omega)).mono ?_; rintro e W2 ⟨vt, rfl, pT, hb⟩; obtain ⟨qt, mt, ct, rfl⟩ := pT.parts)
      | (go_at_call 10; (try go_split_ands); refine (refIntSame_any _ _ z z _ (pB.next (by assumption)) (by first | assumption | exact pT.next (kd (Below.refl _ _)) | exact pT.next bal) rfl hdl2).mono ?_; rintro e W3 ⟨rfl, hb⟩))
  go_split_ands
  have hfin : Below w6.heap.size w6 W3 := by assumption
  replace hg := hg.below hfin
  replace hW := below_next hW hfin
  clear hfin hS x0 x1 y0 y1 pX pB tB hdl hdl2 hdc HL HZ bz pT
  by_cases hok : okText l
  · obtain ⟨z2, hz2⟩ : ∃ z2, l = textB z2 := ⟨_, ok_text hok⟩
    have hl2 : (textB z2).length ≤ 400 := by rw [← hz2]; exact a2
    have HP2 := Lib.hid (fun W => parse_text z2 W hl2)
    have HR2 := Lib.hid (fun W => refParse_text z2 W hl2)
    have hss : s = ⟨(textB z2).toArray⟩ := by rw [HS.out, hz2]
    have HD2 := Lib.hid (refDigs_of_text hl2)
    rw [← hss] at HP2 HR2
    clear hss hl2 hz2 hok HS HSZ
    go_wp2_with fail
    refine (HP2.out _).mono ?_
    rintro e w7 ⟨qn, mn, cn, rfl, pN, hb⟩
    replace hg := hg.below hb
    replace hW := below_next hW hb
    clear hb HP2
    have tN := Two.new w7 (.bool (decide (z2 < 0))) (.slice qn mn cn) 24
    have hal : Below w7.heap.size w7 (w7.alloc (.cells #[.bool (decide (z2 < 0)), .slice qn mn cn] 24)) := bal
    go_wp2_with fail
    obtain ⟨N, hN⟩ : ∃ N, N = w7.heap.size := ⟨_, rfl⟩
    obtain ⟨w8, hw8⟩ : ∃ w8, w8 = w7.alloc (.cells #[.bool (decide (z2 < 0)), .slice qn mn cn] 24) := ⟨_, rfl⟩
    rw [← hw8] at tN hal ⊢
    rw [← hN] at tN ⊢
    clear hw8 hN
    replace pN := pN.next hal
    replace hg := hg.below hal
    replace hW := below_next hW hal
    clear hal
    refine (HR2.out _).mono ?_
    rintro e w9 ⟨vm, rfl, pM, hb⟩
    replace pN := pN.next hb
    replace tN := tN.next hb
    replace hg := hg.below hb
    replace hW := below_next hW hb
    clear hb HR2
    obtain ⟨qm, mm, cm, rfl⟩ := pM.num.parts
    have tM := Two.new w9 (.bool (decide (z2 < 0))) (.slice qm mm cm) 28
    have hal : Below w9.heap.size w9 (w9.alloc (.cells #[.bool (decide (z2 < 0)), .slice qm mm cm] 28)) := bal
    go_wp2_with fail
    obtain ⟨M, hM⟩ : ∃ M, M = w9.heap.size := ⟨_, rfl⟩
    obtain ⟨w10, hw10⟩ : ∃ w10, w10 = w9.alloc (.cells #[.bool (decide (z2 < 0)), .slice qm mm cm] 28) := ⟨_, rfl⟩
    rw [← hw10] at tM hal ⊢
    rw [← hM] at tM ⊢
    clear hw10 hM
    replace pN := pN.next hal
    replace pM := pM.next hal
    replace tN := tN.next hal
    replace hW := below_next hW hal
    clear hal hg
    have n0 := tN.c0; have n1 := tN.c1
    have m0 := tM.c0; have m1 := tM.c1
    have hS := Below.refl w10.heap.size w10
    clear tN tM
    go_region_held3 (fun w' => Below w10.heap.size w10 w' ∧ w'.cell? ⟨N, 0, none⟩ = some (.bool (decide (z2 < 0))) ∧ w'.cell? ⟨N, 1, none⟩ = some (.slice qn mn cn) ∧ w'.cell? ⟨M, 0, none⟩ = some (.bool (decide (z2 < 0))) ∧ w'.cell? ⟨M, 1, none⟩ = some (.slice qm mm cm))
      (((try go_split_ands); ((repeat' apply And.intro) <;> first | assumption | exact below_next (by assumption) hb | exact below_next (by assumption) bal | exact kd (by assumption) | exact kp hb (by assumption) | exact kal (by assumption) | exact kdc (by assumption))))
      (first
        | (go_at_call 11; (try go_split_ands); refine (refTo_any _ z2 _ (pM.num.next (by assumption)) HD2.out.1).mono ?_; rintro e W4 ⟨vt, rfl, pT, hb⟩; obtain ⟨qt, mt, ct, rfl⟩ := pT.parts)
        | (go_at_call 10; (try go_split_ands); refine (refIntSame_any _ _ z2 z2 _ (pN.next (by assumption)) (by first | assumption | exact pT.next (kd (Below.refl _ _)) | exact pT.next bal) rfl HD2.out.2).mono ?_; rintro e W5 ⟨rfl, hb⟩))
    go_split_ands
    have hfin : Below w10.heap.size w10 W5 := by assumption
    replace hW := below_next hW hfin
    clear hfin hS n0 n1 m0 m1 pN pM pT
    go_wp2
    go_ret
    exact ⟨rfl, hW⟩
  · have HP2 := Lib.hid (fun W => parse_no l W a2 hok)
    have HR2 := Lib.hid (fun W => refParse_bad l W a2 hok)
    rw [← HS.out] at HP2 HR2
    clear hok HS HSZ
    go_wp2_with fail
    refine (HP2.out _).mono ?_
    rintro e w7 ⟨rfl, hb⟩
    replace hg := hg.below hb
    replace hW := below_next hW hb
    clear hb HP2
    have tN := Two.new w7 (.bool false) (.slice none 0 0) 24
    have hal : Below w7.heap.size w7 (w7.alloc (.cells #[.bool false, .slice none 0 0] 24)) := bal
    go_wp2_with fail
    obtain ⟨N, hN⟩ : ∃ N, N = w7.heap.size := ⟨_, rfl⟩
    obtain ⟨w8, hw8⟩ : ∃ w8, w8 = w7.alloc (.cells #[.bool false, .slice none 0 0] 24) := ⟨_, rfl⟩
    rw [← hw8] at tN hal ⊢
    rw [← hN] at tN ⊢
    clear hw8 hN
    replace hg := hg.below hal
    replace hW := below_next hW hal
    clear hal
    refine (HR2.out _).mono ?_
    rintro e w9 ⟨rfl, hb⟩
    replace tN := tN.next hb
    replace hg := hg.below hb
    replace hW := below_next hW hb
    clear hb HR2
    have tM := Two.new w9 (.bool false) (.slice none 0 0) 28
    have hal : Below w9.heap.size w9 (w9.alloc (.cells #[.bool false, .slice none 0 0] 28)) := bal
    go_wp2_with fail
    obtain ⟨w10, hw10⟩ : ∃ w10, w10 = w9.alloc (.cells #[.bool false, .slice none 0 0] 28) := ⟨_, rfl⟩
    rw [← hw10] at tM hal ⊢
    clear hw10
    replace tN := tN.next hal
    replace hg := hg.below hal
    replace hW := below_next hW hal
    clear hal tM
    refine (code_hit 4 (by omega) (by omega) w10 hg).mono ?_
    rintro e w11 ⟨rfl, hb⟩
    replace tN := tN.next hb
    replace hW := below_next hW hb
    clear hb hg
    have n0 := tN.c0; have n1 := tN.c1
    go_wp2_with fail
    refine (refIntSame_any _ _ 0 0 w11 (plain_nil w11) (plain_nil w11) rfl (by rw [show (0 : Int).natAbs = 0 from rfl, digs_zero]; simp)).mono ?_
    rintro e w12 ⟨rfl, hb⟩
    replace hW := below_next hW hb
    clear hb n0 n1 tN
    go_wp2
    go_ret
    exact ⟨rfl, hW⟩
end Go.Proofs.YtndcaajebomkhaaGreatDoor
