/- FilterNear: a far that is sure is at most one part in 2^50 beside the square of how far two points lie apart. -/
import Derived.Test.YtknkakkdhihngaaFwQ
import Derived.Test.YtknkakkdhihngaaFwO
import Derived.Test.YtknkakkdhihngaaFwM
import Derived.Deep.RegionHeld3
import Derived.Deep.DeepCutAuto
namespace Go.Proofs.Ytknkakkdhihngaa
open Go.RowKit Ieee

theorem shl1074 {K : Nat} (hK : IsK K) (v : Value) (z : Int) (w : World) (hv : NumAt w v z) (k1 : (digs 65536 z.natAbs).length ≤ 100000) :
    Calls Try.prog 15 #[v, .int .i64 1074] w (GivesNum w (z * (K : Int))) := by
  obtain ⟨e, rfl, he⟩ := hK
  have h := refIntShl_any v z e 67 2 w hv k1 (by omega) (by omega) (by omega)
  rw [show ((e : Nat) : Int) = 1074 by omega] at h
  rw [Int.natCast_pow]
  exact h
theorem shl50 (v : Value) (z : Int) (w : World) (hv : NumAt w v z) (k1 : (digs 65536 z.natAbs).length ≤ 100000) :
    Calls Try.prog 15 #[v, .int .i64 50] w (GivesNum w (z * 1125899906842624)) := by
  have h := refIntShl_any v z 50 3 2 w hv k1 (by omega) (by omega) (by omega)
  rw [show (2 : Int) ^ 50 = 1125899906842624 by decide] at h
  exact h
theorem len_K {K : Nat} (hK : IsK K) : (digs 65536 (K : Int).natAbs).length ≤ 68 := by
  rw [Int.natAbs_natCast]
  have key : ∀ L, 68 ≤ L → (digs 65536 K).length ≤ L := fun L hL => by
    refine (digs_length_le (by omega) _ _).2 ?_
    obtain ⟨e, rfl, he⟩ := hK
    rw [show (65536 : Nat) = 2 ^ 16 by rfl, ← Nat.pow_mul]
    exact Nat.pow_lt_pow_right (by omega) (by omega)
  exact key 68 (Nat.le_refl _)
theorem len_50 : (digs 65536 (1125899906842624 : Int).natAbs).length ≤ 4 := (digs_length_le (by omega) _ _).2 (by decide)
theorem fin_of' {b : Nat} (h : FinB b) : fin b = true := by unfold fin; exact decide_eq_true (by have := h.2; omega)
set_option maxHeartbeats 16000000 in
set_option maxRecDepth 100000 in
theorem filterNear_walk (ax ay bx b2 : Nat) (w : World) (h1 : ax < 18446744073709551616) (h2 : ay < 18446744073709551616) (h3 : bx < 18446744073709551616) (h4 : b2 < 18446744073709551616) :
    Calls Try.prog 5 #[.agg #[.int .u64 (ax : Int), .int .u64 (ay : Int)], .agg #[.int .u64 (bx : Int), .int .u64 (b2 : Int)]] w fun e w' => e = .returned (.bool true) ∧ Below w.heap.size w w' := by
  have T1 := fun W => far_any ax ay bx b2 h1 h2 h3 h4 W
  have hfs := @far_sure (Cls ax) (Cls ay) (Cls bx) (Cls b2) (cls_ok ax h1) (cls_ok ay h2) (cls_ok bx h3) (cls_ok b2 h4)
  obtain ⟨T, hT⟩ : ∃ T, T = farC (Cls ax) (Cls ay) (Cls bx) (Cls b2) := ⟨_, rfl⟩
  rw [← hT] at hfs
  simp only [← hT] at T1
  cases hp : firmC T
  · simp only [hp] at T1
    have H1 := Lib.hid T1
    have HP := Lib.hid hp
    have hq : FloatKind.f64.format.order 0 0 = some .eq := by kernel_rfl
    clear T1 hfs hp h1 h2 h3 h4 hT
    obtain ⟨W0, hW0, hW, tA, tB⟩ := enter2 w (.int .u64 (ax : Int)) (.int .u64 (ay : Int)) 24 (.int .u64 (bx : Int)) (.int .u64 (b2 : Int)) 24
    have a0 := tA.c0; have a1 := tA.c1; have b0 := tB.c0; have b1 := tB.c1
    go_enter Try.func5, Try.ntmps5
    go_wp2_with fail
    rw [← hW0]
    clear hW0
    refine (awake7_any _).mono ?_
    rintro e W1 ⟨rfl, hb⟩
    replace tA := tA.next hb
    replace tB := tB.next hb
    replace hW := below_next hW hb
    clear a0 a1 b0 b1 hb
    have a0 := tA.c0; have a1 := tA.c1; have b0 := tB.c0; have b1 := tB.c1
    go_wp2_with fail
    refine (H1.out _).mono ?_
    rintro e W2 ⟨r, rfl, hr, hb⟩
    have hr0 : r = 0 := by unfold FarIs at hr; rw [HP.out] at hr; exact hr
    subst hr0
    clear hr
    replace tA := tA.next hb
    replace tB := tB.next hb
    replace hW := below_next hW hb
    clear a0 a1 b0 b1 hb
    have a0 := tA.c0; have a1 := tA.c1; have b0 := tB.c0; have b1 := tB.c1
    go_wp2
    go_ret
    exact ⟨rfl, hW⟩
  · obtain ⟨xa, ya, xb, yb, dz, f1, f2, f3, f4, f5, hd0, hB⟩ := hfs hp
    obtain ⟨K, hK⟩ := isK_ex
    obtain ⟨hB1, hB2⟩ := hB K hK
    obtain ⟨g1, e1⟩ := cls_fin f1
    obtain ⟨g2, e2⟩ := cls_fin f2
    obtain ⟨g3, e3⟩ := cls_fin f3
    obtain ⟨g4, e4⟩ := cls_fin f4
    have GA := fun W => good_any ax ay _ _ h1 h2 (fin_of' g1) (fin_of' g2) W
    have GB := fun W => good_any bx b2 _ _ h3 h4 (fin_of' g3) (fin_of' g4) W
    have SQ := fun W => refSquare_any ax ay bx b2 h1 h2 h3 h4 _ _ _ _ e1 e2 e3 e4 W
    have l1 := fZ_len ax
    have l2 := fZ_len ay
    have l3 := fZ_len bx
    have l4 := fZ_len b2
    rw [e1] at l1
    rw [e2] at l2
    rw [e3] at l3
    rw [e4] at l4
    have lz := len_add (len_mul (len_sub l1 l3) (len_sub l1 l3)) (len_mul (len_sub l2 l4) (len_sub l2 l4))
    obtain ⟨z, hz⟩ : ∃ z, z = (xa - xb) * (xa - xb) + (ya - yb) * (ya - yb) := ⟨_, rfl⟩
    rw [← hz] at hB1 hB2 lz
    simp only [← hz] at SQ
    obtain ⟨o, ho⟩ : ∃ o, o = dz * (K : Int) - z := ⟨_, rfl⟩
    rw [← ho] at hB1
    have LZ : Hid ((digs 65536 z.natAbs).length ≤ 300) := Lib.hid (by omega)
    have HSG : Hid (((o.natAbs : Int) * 1125899906842624 - z).sign ≤ 0) := Lib.hid (by have := sign_cases ((o.natAbs : Int) * 1125899906842624 - z); omega)
    have HO := Lib.hid ho
    have HK := Lib.hid hK
    have HFT := Lib.hid f5
    have HP := Lib.hid hp
    have GA := Lib.hid GA
    have GB := Lib.hid GB
    have SQ := Lib.hid SQ
    simp only [hp] at T1
    have H1 := Lib.hid T1
    clear T1 hfs hp h1 h2 h3 h4 hT f1 f2 f3 f4 f5 hd0 hB hB1 hB2 g1 g2 g3 g4 e1 e2 e3 e4 l1 l2 l3 l4 lz hz ho hK
    obtain ⟨W0, hW0, hW, tA, tB⟩ := enter2 w (.int .u64 (ax : Int)) (.int .u64 (ay : Int)) 24 (.int .u64 (bx : Int)) (.int .u64 (b2 : Int)) 24
    have a0 := tA.c0; have a1 := tA.c1; have b0 := tB.c0; have b1 := tB.c1
    go_enter Try.func5, Try.ntmps5
    go_wp2_with fail
    rw [← hW0]
    clear hW0
    refine (awake7_any _).mono ?_
    rintro e W1 ⟨rfl, hb⟩
    replace tA := tA.next hb
    replace tB := tB.next hb
    replace hW := below_next hW hb
    clear a0 a1 b0 b1 hb
    have a0 := tA.c0; have a1 := tA.c1; have b0 := tB.c0; have b1 := tB.c1
    go_wp2_with fail
    refine (H1.out _).mono ?_
    rintro e W2 ⟨r, rfl, hr, hb⟩
    have hr1 : r < 18446744073709551616 ∧ fZ r = dz := by
      unfold FarIs at hr
      rw [HP.out, if_pos rfl] at hr
      have h := HFT.out
      rw [← hr.2] at h
      exact ⟨hr.1, (cls_fin h).2⟩
    have hn := refNum_any r hr1.1
    have ln := fZ_len r
    rw [hr1.2] at hn ln
    have HN := Lib.hid hn
    have hg : (digs 65536 (dz * (K : Int)).natAbs).length ≤ 132 + 68 := len_mul ln (len_K HK.out)
    have hol : (digs 65536 o.natAbs).length ≤ 301 := by rw [HO.out]; exact len_sub (L := 300) (by omega) LZ.out
    have LN := Lib.hid ln
    have LG := Lib.hid hg
    have LO := Lib.hid hol
    have LF : Hid ((digs 65536 ((o.natAbs : Int) * 1125899906842624).natAbs).length ≤ 305) := Lib.hid (by
      have h := len_mul (x := (o.natAbs : Int)) (y := 1125899906842624) (L := 301) (M := 4) (by rw [Int.natAbs_natCast]; exact LO.out) len_50
      omega)
    have hbits := run_bits r
    clear hr hr1 hn ln hg hol HFT HP
    replace tA := tA.next hb
    replace tB := tB.next hb
    replace hW := below_next hW hb
    clear a0 a1 b0 b1 hb
    have a0 := tA.c0; have a1 := tA.c1; have b0 := tB.c0; have b1 := tB.c1
    go_wp2_with fail
    refine (GA.out _).mono ?_
    rintro e W3 ⟨rfl, hb⟩
    replace tA := tA.next hb
    replace tB := tB.next hb
    replace hW := below_next hW hb
    clear a0 a1 b0 b1 hb
    have a0 := tA.c0; have a1 := tA.c1; have b0 := tB.c0; have b1 := tB.c1
    go_wp2_with fail
    refine (GB.out _).mono ?_
    rintro e W4 ⟨rfl, hb⟩
    replace tA := tA.next hb
    replace tB := tB.next hb
    replace hW := below_next hW hb
    clear a0 a1 b0 b1 hb
    have a0 := tA.c0; have a1 := tA.c1; have b0 := tB.c0; have b1 := tB.c1
    go_wp2_with fail
    refine (SQ.out _).mono ?_
    rintro e W5 ⟨v, rfl, pw, hb⟩
    obtain ⟨qw, mw, cw, rfl⟩ := pw.parts
    replace hW := below_next hW hb
    clear a0 a1 b0 b1 tA tB hb GA GB SQ H1
    go_upto_region 9 with fail
    obtain ⟨W6, hN, hb, tW⟩ := enter1 W5 (.bool (decide (z < 0))) (.slice qw mw cw) 36
    rw [← hN]
    clear hN
    replace pw := pw.next hb
    replace hW := below_next hW hb
    clear hb
    go_wp2_with (first | (simp only [hbits]) | fail)
    refine (HN.out _).mono ?_
    rintro e W7 ⟨v, rfl, pn, hb⟩
    replace pw := pw.next hb
    replace tW := tW.next hb
    replace hW := below_next hW hb
    clear hb hbits
    go_wp2_with fail
    refine (shl1074 HK.out _ dz _ pn (by have := LN.out; omega)).mono ?_
    rintro e W8 ⟨v, rfl, pg, hb⟩
    obtain ⟨qg, mg, cg, rfl⟩ := pg.parts
    replace pw := pw.next hb
    replace tW := tW.next hb
    replace hW := below_next hW hb
    clear hb pn
    go_upto_region 10 with fail
    obtain ⟨W9, hN, hb, tG⟩ := enter1 W8 (.bool (decide (dz * (K : Int) < 0))) (.slice qg mg cg) 36
    rw [← hN]
    clear hN
    replace pw := pw.next hb
    replace pg := pg.next hb
    replace tW := tW.next hb
    replace hW := below_next hW hb
    clear hb
    have w0 := tW.c0; have w1 := tW.c1; have g0 := tG.c0; have g1 := tG.c1
    go_wp2_with fail
    refine (refIntSub_any _ _ (dz * (K : Int)) z _ pg pw (by have := LG.out; omega) (by have := LZ.out; omega)).mono ?_
    rw [← HO.out]
    rintro e W10 ⟨v, rfl, po, hb⟩
    obtain ⟨qo, mo, co, rfl, hmo, hRo⟩ := po
    replace pw := pw.next hb
    replace tW := tW.next hb
    replace tG := tG.next hb
    replace hW := below_next hW hb
    clear hb pg w0 w1 g0 g1
    go_upto_region 11 with fail
    obtain ⟨W11, hN, hb, tO⟩ := enter1 W10 (.bool (decide (o < 0))) (.slice qo mo co) 36
    rw [← hN]
    clear hN
    replace pw := pw.next hb
    replace tW := tW.next hb
    replace tG := tG.next hb
    replace hW := below_next hW hb
    replace hRo := hRo.next hb
    have hmol : mo ≤ 400 := by have := hRo.count; have := LO.out; omega
    clear hb
    refine wp_region_held_drew (S := fun w' => Below W11.heap.size W11 w') (by kernel_rfl) kd0 (fun hHeld => ?_)
    refine wpAnyH_take (i := 0) (oi := ?oi1001) (v := ?v1001) ?hi1001 ?h11001 ?h21001 ?h31001 ?hQ1001 (Or.inl ⟨?hw1001, ?hy1001⟩) hHeld ?rest1001
    case hi1001 => (simp only [List.getElem?_toArray, List.getElem?_cons_zero]; rfl)
    case h11001 => kernel_rfl
    case h21001 => kernel_rfl
    case h31001 => kernel_rfl
    case hQ1001 => exact fun _ _ _ h => h
    case hw1001 => rfl
    case hy1001 => (intro w hSw; go_simp; first | done | with_reducible rfl)
    (try simp only [Act.put, List.setIfInBounds_toArray, List.set_cons_zero, List.set_cons_succ])
    refine wpAnyH_take (i := 1) (oi := ?oi1002) (v := ?v1002) ?hi1002 ?h11002 ?h21002 ?h31002 ?hQ1002 (Or.inl ⟨?hw1002, ?hy1002⟩) hHeld ?rest1002
    case hi1002 => (simp only [List.getElem?_toArray, List.getElem?_cons_succ, List.getElem?_cons_zero]; rfl)
    case h11002 => kernel_rfl
    case h21002 => kernel_rfl
    case h31002 => kernel_rfl
    case hQ1002 => exact fun _ _ _ h => h
    case hw1002 => rfl
    case hy1002 => (intro w hSw; have z1 := (tO.next hSw).c1; go_simp; first | done | with_reducible rfl)
    (try simp only [Act.put, List.setIfInBounds_toArray, List.set_cons_zero, List.set_cons_succ])
    refine wpAnyH_take (i := 4) (oi := ?oi1003) (v := ?v1003) ?hi1003 ?h11003 ?h21003 ?h31003 ?hQ1003 (Or.inl ⟨?hw1003, ?hy1003⟩) hHeld ?rest1003
    case hi1003 => (simp only [List.getElem?_toArray, List.getElem?_cons_succ, List.getElem?_cons_zero]; rfl)
    case h11003 => kernel_rfl
    case h21003 => kernel_rfl
    case h31003 => kernel_rfl
    case hQ1003 => exact fun _ _ _ h => h
    case hw1003 => rfl
    case hy1003 => (intro w hSw; have z0 := (tW.next hSw).c0; have z1 := (tW.next hSw).c1; go_simp; first | done | with_reducible rfl)
    (try simp only [Act.put, List.setIfInBounds_toArray, List.set_cons_zero, List.set_cons_succ])
    refine wpAnyH_ready (rs := [2]) (by kernel_rfl) (by simp) ?_
    refine AllReadyH.cons (o := ?o1004) ?ho1004 (fun K hK => ?st1004) AllReadyH.nil
    case ho1004 => (simp only [List.getElem?_toArray, List.getElem?_cons_succ, List.getElem?_cons_zero]; rfl)
    go_simp
    refine (refNew_any false qo mo co _ _ hmo (by have := hRo.count; omega) (hRo.next hHeld) (Nat.le_refl _) (val_digs (by omega) _)).mono ?_
    rintro e V2 ⟨v2, rfl, p2, hb⟩
    rw [wv_false] at p2
    refine hK.out _ _ (below_next hHeld hb) (fun hNew => ?_)
    clear hK K hHeld
    have hHeld := hNew
    clear hNew
    (try simp only [Act.put, List.setIfInBounds_toArray, List.set_cons_zero, List.set_cons_succ])
    clear hb
    refine wpAnyH_ready (rs := [3]) (by kernel_rfl) (by simp) ?_
    refine AllReadyH.cons (o := ?o1005) ?ho1005 (fun K hK => ?st1005) AllReadyH.nil
    case ho1005 => (simp only [List.getElem?_toArray, List.getElem?_cons_succ, List.getElem?_cons_zero]; rfl)
    go_simp
    refine (shl50 _ _ _ p2 (by rw [Int.natAbs_natCast]; have := LO.out; omega)).mono ?_
    rintro e V3 ⟨v3, rfl, p3, hb⟩
    clear p2
    refine hK.out _ _ (below_next hHeld hb) (fun hNew => ?_)
    clear hK K hHeld
    have hHeld := hNew
    clear hNew
    (try simp only [Act.put, List.setIfInBounds_toArray, List.set_cons_zero, List.set_cons_succ])
    clear hb
    refine wpAnyH_ready (rs := [5]) (by kernel_rfl) (by simp) ?_
    refine AllReadyH.cons (o := ?o1006) ?ho1006 (fun K hK => ?st1006) AllReadyH.nil
    case ho1006 => (simp only [List.getElem?_toArray, List.getElem?_cons_succ, List.getElem?_cons_zero]; rfl)
    go_simp
    refine (refIntCmp_any _ _ _ z _ p3 (pw.next hHeld) (by have := LF.out; omega) (by have := LZ.out; omega)).mono ?_
    rintro e V5 ⟨rfl, hb⟩
    clear p3
    refine hK.out _ _ (below_next hHeld hb) (fun hNew => ?_)
    clear hK K hHeld
    have hHeld := hNew
    clear hNew
    (try simp only [Act.put, List.setIfInBounds_toArray, List.set_cons_zero, List.set_cons_succ])
    clear hb
    obtain ⟨sg, hsg⟩ : ∃ sg, sg = ((o.natAbs : Int) * 1125899906842624 - z).sign := ⟨_, rfl⟩
    rw [← hsg]
    have hs0 : sg ≤ 0 := by rw [hsg]; exact HSG.out
    clear hsg
    refine wpAnyH_take (i := 6) (oi := ?oi1007) (v := ?v1007) ?hi1007 ?h11007 ?h21007 ?h31007 ?hQ1007 (Or.inl ⟨?hw1007, ?hy1007⟩) hHeld ?rest1007
    case hi1007 => (simp only [List.getElem?_toArray, List.getElem?_cons_succ, List.getElem?_cons_zero]; rfl)
    case h11007 => kernel_rfl
    case h21007 => kernel_rfl
    case h31007 => kernel_rfl
    case hQ1007 => exact fun _ _ _ h => h
    case hw1007 => rfl
    case hy1007 => (intro w hSw; go_simp; first | done | with_reducible rfl)
    (try simp only [Act.put, List.setIfInBounds_toArray, List.set_cons_zero, List.set_cons_succ])
    refine wpAnyH_take (i := 7) (oi := ?oi1008) (v := ?v1008) ?hi1008 ?h11008 ?h21008 ?h31008 ?hQ1008 (Or.inl ⟨?hw1008, ?hy1008⟩) hHeld ?rest1008
    case hi1008 => (simp only [List.getElem?_toArray, List.getElem?_cons_succ, List.getElem?_cons_zero]; rfl)
    case h11008 => kernel_rfl
    case h21008 => kernel_rfl
    case h31008 => kernel_rfl
    case hQ1008 => exact fun _ _ _ h => h
    case hw1008 => rfl
    case hy1008 => (intro w hSw; go_simp; first | done | with_reducible rfl)
    (try simp only [Act.put, List.setIfInBounds_toArray, List.set_cons_zero, List.set_cons_succ])
    refine wpAnyH_done (by kernel_rfl) ?_ _
    replace hW := below_next hW hHeld
    clear hHeld tO tW tG hRo pw
    go_wp2
    go_ret
    exact ⟨rfl, hW⟩
end Go.Proofs.Ytknkakkdhihngaa
