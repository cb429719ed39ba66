/- The document's exact turn of three good points. -/
import Derived.Test.YtknkakkdhihngaaFwM
import Derived.Deep.DeepCutAuto
import Derived.Deep.RegionHeld3
namespace Go.Proofs.Ytknkakkdhihngaa
open Go.RowKit

set_option maxHeartbeats 16000000 in
set_option maxRecDepth 100000 in
theorem refTurn_any (ax ay bx b2 cx cy : Nat) (h1 : ax < 18446744073709551616) (h2 : ay < 18446744073709551616) (h3 : bx < 18446744073709551616) (h4 : b2 < 18446744073709551616) (h5 : cx < 18446744073709551616) (h6 : cy < 18446744073709551616)
    (xa ya xb yb xc yc : Int) (e1 : fZ ax = xa) (e2 : fZ ay = ya) (e3 : fZ bx = xb) (e4 : fZ b2 = yb) (e5 : fZ cx = xc) (e6 : fZ cy = yc) (w : World) :
    Calls Try.prog 13 #[.agg #[.int .u64 (ax : Int), .int .u64 (ay : Int)], .agg #[.int .u64 (bx : Int), .int .u64 (b2 : Int)], .agg #[.int .u64 (cx : Int), .int .u64 (cy : Int)]] w fun e w' =>
      e = .returned (.int .i64 ((xa - xc) * (yb - yc) - (ya - yc) * (xb - xc)).sign) ∧ Below w.heap.size w w' := by
  have Hax := Lib.hid (refNum_any ax h1)
  have Lxa := Lib.hid (fZ_len ax)
  rw [e1] at Hax Lxa
  have Hay := Lib.hid (refNum_any ay h2)
  have Lya := Lib.hid (fZ_len ay)
  rw [e2] at Hay Lya
  have Hbx := Lib.hid (refNum_any bx h3)
  have Lxb := Lib.hid (fZ_len bx)
  rw [e3] at Hbx Lxb
  have Hb2 := Lib.hid (refNum_any b2 h4)
  have Lyb := Lib.hid (fZ_len b2)
  rw [e4] at Hb2 Lyb
  have Hcx := Lib.hid (refNum_any cx h5)
  have Lxc := Lib.hid (fZ_len cx)
  rw [e5] at Hcx Lxc
  have Hcy := Lib.hid (refNum_any cy h6)
  have Lyc := Lib.hid (fZ_len cy)
  rw [e6] at Hcy Lyc
  clear e1 e2 e3 e4 e5 e6 h1 h2 h3 h4 h5 h6
  obtain ⟨W0, hW0, hW, tA, tB, tC⟩ := enter3 w (.int .u64 (ax : Int)) (.int .u64 (ay : Int)) 24 (.int .u64 (bx : Int)) (.int .u64 (b2 : Int)) 24 (.int .u64 (cx : Int)) (.int .u64 (cy : Int)) 24
  obtain ⟨B, hB⟩ : ∃ B, B = w.heap.size + 1 := ⟨_, rfl⟩
  obtain ⟨C, hC⟩ : ∃ C, C = w.heap.size + 1 + 1 := ⟨_, rfl⟩
  replace tC : Two W0 C (.int .u64 (cx : Int)) (.int .u64 (cy : Int)) 24 := by rw [hC]; exact tC
  replace tB : Two W0 B (.int .u64 (bx : Int)) (.int .u64 (b2 : Int)) 24 := by rw [hB]; exact tB
  have tA0 := tA.c0; have tA1 := tA.c1; have tB0 := tB.c0; have tB1 := tB.c1; have tC0 := tC.c0; have tC1 := tC.c1
  go_enter Try.func13, Try.ntmps13
  go_wp2_with fail
  rw [← hW0, ← hC, ← hB]
  clear hW0 hB hC
  refine (Hcx.out _).mono ?_
  rintro e W1 ⟨vcx, rfl, pcx, hb⟩
  clear tA0 tA1 tB0 tB1 tC0 tC1
  replace tA := tA.next hb
  replace tB := tB.next hb
  replace tC := tC.next hb
  replace hW := below_next hW hb
  clear hb
  have tA0 := tA.c0; have tA1 := tA.c1
  have tB0 := tB.c0; have tB1 := tB.c1
  have tC0 := tC.c0; have tC1 := tC.c1
  obtain ⟨qcx, mcx, ccx, rfl⟩ := pcx.parts
  go_upto_region 2 with fail
  obtain ⟨W2, hN, hb, tU⟩ := enter1 W1 (.bool (decide (xc < 0))) (.slice qcx mcx ccx) 36
  rw [← hN]
  clear hN
  clear tA0 tA1 tB0 tB1 tC0 tC1
  replace pcx := pcx.next hb
  replace tA := tA.next hb
  replace tB := tB.next hb
  replace tC := tC.next hb
  replace hW := below_next hW hb
  clear hb
  have tA0 := tA.c0; have tA1 := tA.c1
  have tB0 := tB.c0; have tB1 := tB.c1
  have tC0 := tC.c0; have tC1 := tC.c1
  have tU0 := tU.c0; have tU1 := tU.c1
  go_wp2_with fail
  refine (Hcy.out _).mono ?_
  rintro e W3 ⟨vcy, rfl, pcy, hb⟩
  clear tA0 tA1 tB0 tB1 tC0 tC1 tU0 tU1
  replace pcx := pcx.next hb
  replace tA := tA.next hb
  replace tB := tB.next hb
  replace tC := tC.next hb
  replace tU := tU.next hb
  replace hW := below_next hW hb
  clear hb
  have tA0 := tA.c0; have tA1 := tA.c1
  have tB0 := tB.c0; have tB1 := tB.c1
  have tC0 := tC.c0; have tC1 := tC.c1
  have tU0 := tU.c0; have tU1 := tU.c1
  obtain ⟨qcy, mcy, ccy, rfl⟩ := pcy.parts
  go_upto_region 3 with fail
  obtain ⟨W4, hN, hb, tV⟩ := enter1 W3 (.bool (decide (yc < 0))) (.slice qcy mcy ccy) 36
  rw [← hN]
  clear hN
  clear tA0 tA1 tB0 tB1 tC0 tC1 tU0 tU1
  replace pcx := pcx.next hb
  replace pcy := pcy.next hb
  replace tA := tA.next hb
  replace tB := tB.next hb
  replace tC := tC.next hb
  replace tU := tU.next hb
  replace hW := below_next hW hb
  clear hb
  have tA0 := tA.c0; have tA1 := tA.c1
  have tB0 := tB.c0; have tB1 := tB.c1
  have tC0 := tC.c0; have tC1 := tC.c1
  have tU0 := tU.c0; have tU1 := tU.c1
  have tV0 := tV.c0; have tV1 := tV.c1
  clear tA0 tA1 tB0 tB1 tC0 tC1 tU0 tU1 tV0 tV1
  go_cut [9] (fun s9 wx => Hid (∃ (g : Nat) (q : Option Addr) (m c : Nat), s9 = .pointer (some ⟨g, 0, none⟩) ∧ Two wx g (.bool (decide ((xa - xc) * (yb - yc) < 0))) (.slice q m c) 36 ∧ NumAt wx (.agg #[.bool (decide ((xa - xc) * (yb - yc) < 0)), .slice q m c]) ((xa - xc) * (yb - yc)) ∧ Below W4.heap.size W4 wx))
  case first =>
    refine wp_region_held_drew (S := fun w' => Below W4.heap.size W4 w') (by kernel_rfl) kd0 (fun hHeld => ?_)
    refine wpAnyH_take (i := 0) (oi := ?oi1001) (v := ?v1001) ?hi1001 ?h11001 ?h21001 ?h31001 ?hQ1001 (Or.inl ⟨?hw1001, ?hy1001⟩) hHeld ?rest1001
    case hi1001 => (simp only [List.getElem?_toArray, List.getElem?_cons_zero]; rfl)
    case h11001 => kernel_rfl
    case h21001 => kernel_rfl
    case h31001 => kernel_rfl
    case hQ1001 => exact fun _ _ _ h => h
    case hw1001 => rfl
    case hy1001 => (intro w hSw; go_simp; first | done | with_reducible rfl)
    (try simp only [Act.put, List.setIfInBounds_toArray, List.set_cons_zero, List.set_cons_succ])
    refine wpAnyH_take (i := 1) (oi := ?oi1002) (v := ?v1002) ?hi1002 ?h11002 ?h21002 ?h31002 ?hQ1002 (Or.inl ⟨?hw1002, ?hy1002⟩) hHeld ?rest1002
    case hi1002 => (simp only [List.getElem?_toArray, List.getElem?_cons_succ, List.getElem?_cons_zero]; rfl)
    case h11002 => kernel_rfl
    case h21002 => kernel_rfl
    case h31002 => kernel_rfl
    case hQ1002 => exact fun _ _ _ h => h
    case hw1002 => rfl
    case hy1002 => (intro w hSw; have ztA0 := (tA.next hSw).c0; have ztA1 := (tA.next hSw).c1; go_simp; first | done | with_reducible rfl)
    (try simp only [Act.put, List.setIfInBounds_toArray, List.set_cons_zero, List.set_cons_succ])
    refine wpAnyH_take (i := 3) (oi := ?oi1003) (v := ?v1003) ?hi1003 ?h11003 ?h21003 ?h31003 ?hQ1003 (Or.inl ⟨?hw1003, ?hy1003⟩) hHeld ?rest1003
    case hi1003 => (simp only [List.getElem?_toArray, List.getElem?_cons_succ, List.getElem?_cons_zero]; rfl)
    case h11003 => kernel_rfl
    case h21003 => kernel_rfl
    case h31003 => kernel_rfl
    case hQ1003 => exact fun _ _ _ h => h
    case hw1003 => rfl
    case hy1003 => (intro w hSw; have ztU0 := (tU.next hSw).c0; have ztU1 := (tU.next hSw).c1; go_simp; first | done | with_reducible rfl)
    (try simp only [Act.put, List.setIfInBounds_toArray, List.set_cons_zero, List.set_cons_succ])
    refine wpAnyH_take (i := 5) (oi := ?oi1004) (v := ?v1004) ?hi1004 ?h11004 ?h21004 ?h31004 ?hQ1004 (Or.inl ⟨?hw1004, ?hy1004⟩) hHeld ?rest1004
    case hi1004 => (simp only [List.getElem?_toArray, List.getElem?_cons_succ, List.getElem?_cons_zero]; rfl)
    case h11004 => kernel_rfl
    case h21004 => kernel_rfl
    case h31004 => kernel_rfl
    case hQ1004 => exact fun _ _ _ h => h
    case hw1004 => rfl
    case hy1004 => (intro w hSw; go_simp; first | done | with_reducible rfl)
    (try simp only [Act.put, List.setIfInBounds_toArray, List.set_cons_zero, List.set_cons_succ])
    refine wpAnyH_take (i := 6) (oi := ?oi1005) (v := ?v1005) ?hi1005 ?h11005 ?h21005 ?h31005 ?hQ1005 (Or.inl ⟨?hw1005, ?hy1005⟩) hHeld ?rest1005
    case hi1005 => (simp only [List.getElem?_toArray, List.getElem?_cons_succ, List.getElem?_cons_zero]; rfl)
    case h11005 => kernel_rfl
    case h21005 => kernel_rfl
    case h31005 => kernel_rfl
    case hQ1005 => exact fun _ _ _ h => h
    case hw1005 => rfl
    case hy1005 => (intro w hSw; have ztB0 := (tB.next hSw).c0; have ztB1 := (tB.next hSw).c1; go_simp; first | done | with_reducible rfl)
    (try simp only [Act.put, List.setIfInBounds_toArray, List.set_cons_zero, List.set_cons_succ])
    refine wpAnyH_take (i := 8) (oi := ?oi1006) (v := ?v1006) ?hi1006 ?h11006 ?h21006 ?h31006 ?hQ1006 (Or.inl ⟨?hw1006, ?hy1006⟩) hHeld ?rest1006
    case hi1006 => (simp only [List.getElem?_toArray, List.getElem?_cons_succ, List.getElem?_cons_zero]; rfl)
    case h11006 => kernel_rfl
    case h21006 => kernel_rfl
    case h31006 => kernel_rfl
    case hQ1006 => exact fun _ _ _ h => h
    case hw1006 => rfl
    case hy1006 => (intro w hSw; have ztV0 := (tV.next hSw).c0; have ztV1 := (tV.next hSw).c1; go_simp; first | done | with_reducible rfl)
    (try simp only [Act.put, List.setIfInBounds_toArray, List.set_cons_zero, List.set_cons_succ])
    refine wpAnyH_ready (rs := [2, 11]) (by kernel_rfl) (by simp) ?_
    refine AllReadyH.cons (o := ?o1007) ?ho1007 (fun K hK => ?st1007) (AllReadyH.cons (o := ?o1008) ?ho1008 (fun K hK => ?st1008) AllReadyH.nil)
    case ho1007 => (simp only [List.getElem?_toArray, List.getElem?_cons_succ, List.getElem?_cons_zero]; rfl)
    case ho1008 => (simp only [List.getElem?_toArray, List.getElem?_cons_succ, List.getElem?_cons_zero]; rfl)
    case st1007 =>
      go_simp
      (try go_at_call 16)
      refine (Hax.out _).mono ?_
      rintro e V1009 ⟨v0, rfl, p0, hb⟩
      refine hK.out _ _ (below_next hHeld hb) (fun hNew => ?_)
      clear hK K hHeld
      have hHeld := hNew
      clear hNew
      (try simp only [Act.put, List.setIfInBounds_toArray, List.set_cons_zero, List.set_cons_succ])
      clear hb
      refine wpAnyH_ready (rs := [4, 11]) (by kernel_rfl) (by simp) ?_
      refine AllReadyH.cons (o := ?o1010) ?ho1010 (fun K hK => ?st1010) (AllReadyH.cons (o := ?o1011) ?ho1011 (fun K hK => ?st1011) AllReadyH.nil)
      case ho1010 => (simp only [List.getElem?_toArray, List.getElem?_cons_succ, List.getElem?_cons_zero]; rfl)
      case ho1011 => (simp only [List.getElem?_toArray, List.getElem?_cons_succ, List.getElem?_cons_zero]; rfl)
      case st1010 =>
        go_simp
        (try go_at_call 18)
        refine (refIntSub_any _ _ xa xc _ p0 (pcx.next hHeld) (by have := Lxa.out; omega) (by have := Lxc.out; omega)).mono ?_
        rintro e V1012 ⟨v1, rfl, p1, hb⟩
        replace p0 := p0.next hb
        clear p0
        refine hK.out _ _ (below_next hHeld hb) (fun hNew => ?_)
        clear hK K hHeld
        have hHeld := hNew
        clear hNew
        (try simp only [Act.put, List.setIfInBounds_toArray, List.set_cons_zero, List.set_cons_succ])
        clear hb
        refine wpAnyH_ready (rs := [7, 11]) (by kernel_rfl) (by simp) ?_
        refine AllReadyH.cons (o := ?o1013) ?ho1013 (fun K hK => ?st1013) (AllReadyH.cons (o := ?o1014) ?ho1014 (fun K hK => ?st1014) AllReadyH.nil)
        case ho1013 => (simp only [List.getElem?_toArray, List.getElem?_cons_succ, List.getElem?_cons_zero]; rfl)
        case ho1014 => (simp only [List.getElem?_toArray, List.getElem?_cons_succ, List.getElem?_cons_zero]; rfl)
        case st1013 =>
          go_simp
          (try go_at_call 16)
          refine (Hb2.out _).mono ?_
          rintro e V1015 ⟨v2, rfl, p2, hb⟩
          replace p1 := p1.next hb
          refine hK.out _ _ (below_next hHeld hb) (fun hNew => ?_)
          clear hK K hHeld
          have hHeld := hNew
          clear hNew
          (try simp only [Act.put, List.setIfInBounds_toArray, List.set_cons_zero, List.set_cons_succ])
          clear hb
          refine wpAnyH_ready (rs := [9, 11]) (by kernel_rfl) (by simp) ?_
          refine AllReadyH.cons (o := ?o1016) ?ho1016 (fun K hK => ?st1016) (AllReadyH.cons (o := ?o1017) ?ho1017 (fun K hK => ?st1017) AllReadyH.nil)
          case ho1016 => (simp only [List.getElem?_toArray, List.getElem?_cons_succ, List.getElem?_cons_zero]; rfl)
          case ho1017 => (simp only [List.getElem?_toArray, List.getElem?_cons_succ, List.getElem?_cons_zero]; rfl)
          case st1016 =>
            go_simp
            (try go_at_call 18)
            refine (refIntSub_any _ _ yb yc _ p2 (pcy.next hHeld) (by have := Lyb.out; omega) (by have := Lyc.out; omega)).mono ?_
            rintro e V1018 ⟨v3, rfl, p3, hb⟩
            replace p1 := p1.next hb
            replace p2 := p2.next hb
            clear p2
            refine hK.out _ _ (below_next hHeld hb) (fun hNew => ?_)
            clear hK K hHeld
            have hHeld := hNew
            clear hNew
            (try simp only [Act.put, List.setIfInBounds_toArray, List.set_cons_zero, List.set_cons_succ])
            clear hb
            refine wpAnyH_ready (rs := [10, 11]) (by kernel_rfl) (by simp) ?_
            refine AllReadyH.cons (o := ?o1019) ?ho1019 (fun K hK => ?st1019) (AllReadyH.cons (o := ?o1020) ?ho1020 (fun K hK => ?st1020) AllReadyH.nil)
            case ho1019 => (simp only [List.getElem?_toArray, List.getElem?_cons_succ, List.getElem?_cons_zero]; rfl)
            case ho1020 => (simp only [List.getElem?_toArray, List.getElem?_cons_succ, List.getElem?_cons_zero]; rfl)
            case st1019 =>
              go_simp
              (try go_at_call 30)
              refine (refIntMul_any _ _ (xa - xc) (yb - yc) _ p1 p3 (Nat.le_trans (len_sub Lxa.out Lxc.out) (by omega)) (Nat.le_trans (len_sub Lyb.out Lyc.out) (by omega))).mono ?_
              rintro e V1021 ⟨v4, rfl, p4, hb⟩
              replace p1 := p1.next hb
              replace p3 := p3.next hb
              clear p1 p3
              obtain ⟨q4, m4, c4, rfl⟩ := p4.parts
              refine hK.out _ _ (below_next hHeld hb) (fun hNew => ?_)
              clear hK K hHeld
              have hHeld := hNew
              clear hNew
              (try simp only [Act.put, List.setIfInBounds_toArray, List.set_cons_zero, List.set_cons_succ])
              clear hb
              refine wpAnyH_ready (rs := [11]) (by kernel_rfl) (by simp) ?_
              refine AllReadyH.cons (o := ?o1022) ?ho1022 (fun K hK => ?st1022) AllReadyH.nil
              case ho1022 => (simp only [List.getElem?_toArray, List.getElem?_cons_succ, List.getElem?_cons_zero]; rfl)
              have hOld := hHeld
              go_simp
              refine hK.out _ _ (below_next hHeld bal) (fun hNew => ?_)
              clear hK K
              have hgX := hHeld.size
              have tX := Two.made (w := V1021) (b := V1021.heap.size) (T := 36) (.bool false) (.slice none 0 0) rfl
              clear hHeld
              have hHeld := hNew
              clear hNew
              (try simp only [Act.put, List.setIfInBounds_toArray, List.set_cons_zero, List.set_cons_succ])
              refine wpAnyH_ready (rs := [12]) (by kernel_rfl) (by simp) ?_
              refine AllReadyH.cons (o := ?o1024) ?ho1024 (fun K hK => ?st1024) AllReadyH.nil
              case ho1024 => (simp only [List.getElem?_toArray, List.getElem?_cons_succ, List.getElem?_cons_zero]; rfl)
              have x0 := tX.c0; have x1 := tX.c1; have x2 := tX.f0; have x3 := tX.f1
              go_simp
              refine hK.out _ _ (below_next hOld bal) (fun hNew => ?_)
              clear hK K hHeld x0 x1 x2 x3
              have hHeld := hNew
              clear hNew
              (try simp only [Act.put, List.setIfInBounds_toArray, List.set_cons_zero, List.set_cons_succ])
              refine wpAnyH_done (by kernel_rfl) ?_ _
              go_wp2_with fail
              go_meet
              exact Lib.hid ⟨_, _, _, _, rfl, Two.new _ _ _ _, p4.next bal, below_next hOld bal⟩
            case st1020 =>
              go_simp
              refine hK.out _ _ (below_next hHeld bal) (fun hNew => ?_)
              clear hK K
              have hgX := hHeld.size
              have tX := Two.made (w := V1018) (b := V1018.heap.size) (T := 36) (.bool false) (.slice none 0 0) rfl
              clear hHeld
              have hHeld := hNew
              clear hNew
              (try simp only [Act.put, List.setIfInBounds_toArray, List.set_cons_zero, List.set_cons_succ])
              have hbA : Below V1018.heap.size V1018 (V1018.alloc (.cells #[.bool false, .slice none 0 0] 36)) := bal
              replace p1 := p1.next hbA
              replace p3 := p3.next hbA
              clear hbA
              refine wpAnyH_ready (rs := [10]) (by kernel_rfl) (by simp) ?_
              refine AllReadyH.cons (o := ?o1026) ?ho1026 (fun K hK => ?st1026) AllReadyH.nil
              case ho1026 => (simp only [List.getElem?_toArray, List.getElem?_cons_succ, List.getElem?_cons_zero]; rfl)
              go_simp
              (try go_at_call 30)
              refine (refIntMul_any _ _ (xa - xc) (yb - yc) _ p1 p3 (Nat.le_trans (len_sub Lxa.out Lxc.out) (by omega)) (Nat.le_trans (len_sub Lyb.out Lyc.out) (by omega))).mono ?_
              rintro e V1027 ⟨v4, rfl, p4, hb⟩
              replace p1 := p1.next hb
              replace p3 := p3.next hb
              replace tX := tX.next hb
              clear p1 p3
              obtain ⟨q4, m4, c4, rfl⟩ := p4.parts
              refine hK.out _ _ (below_next hHeld hb) (fun hNew => ?_)
              clear hK K hHeld
              have hHeld := hNew
              clear hNew
              (try simp only [Act.put, List.setIfInBounds_toArray, List.set_cons_zero, List.set_cons_succ])
              clear hb
              refine wpAnyH_ready (rs := [12]) (by kernel_rfl) (by simp) ?_
              refine AllReadyH.cons (o := ?o1028) ?ho1028 (fun K hK => ?st1028) AllReadyH.nil
              case ho1028 => (simp only [List.getElem?_toArray, List.getElem?_cons_succ, List.getElem?_cons_zero]; rfl)
              have x0 := tX.c0; have x1 := tX.c1; have x2 := tX.f0; have x3 := tX.f1
              go_simp
              refine hK.out _ _ (ks (ks hHeld hgX) hgX) (fun hNew => ?_)
              clear hK K hHeld x0 x1 x2 x3
              have hHeld := hNew
              clear hNew
              (try simp only [Act.put, List.setIfInBounds_toArray, List.set_cons_zero, List.set_cons_succ])
              refine wpAnyH_done (by kernel_rfl) ?_ _
              go_wp2_with fail
              go_meet
              exact Lib.hid ⟨_, _, _, _, rfl, tX.puts, p4.put tX, hHeld⟩
          case st1017 =>
            go_simp
            refine hK.out _ _ (below_next hHeld bal) (fun hNew => ?_)
            clear hK K
            have hgX := hHeld.size
            have tX := Two.made (w := V1015) (b := V1015.heap.size) (T := 36) (.bool false) (.slice none 0 0) rfl
            clear hHeld
            have hHeld := hNew
            clear hNew
            (try simp only [Act.put, List.setIfInBounds_toArray, List.set_cons_zero, List.set_cons_succ])
            have hbA : Below V1015.heap.size V1015 (V1015.alloc (.cells #[.bool false, .slice none 0 0] 36)) := bal
            replace p1 := p1.next hbA
            replace p2 := p2.next hbA
            clear hbA
            refine wpAnyH_ready (rs := [9]) (by kernel_rfl) (by simp) ?_
            refine AllReadyH.cons (o := ?o1030) ?ho1030 (fun K hK => ?st1030) AllReadyH.nil
            case ho1030 => (simp only [List.getElem?_toArray, List.getElem?_cons_succ, List.getElem?_cons_zero]; rfl)
            go_simp
            (try go_at_call 18)
            refine (refIntSub_any _ _ yb yc _ p2 (pcy.next hHeld) (by have := Lyb.out; omega) (by have := Lyc.out; omega)).mono ?_
            rintro e V1031 ⟨v3, rfl, p3, hb⟩
            replace p1 := p1.next hb
            replace p2 := p2.next hb
            replace tX := tX.next hb
            clear p2
            refine hK.out _ _ (below_next hHeld hb) (fun hNew => ?_)
            clear hK K hHeld
            have hHeld := hNew
            clear hNew
            (try simp only [Act.put, List.setIfInBounds_toArray, List.set_cons_zero, List.set_cons_succ])
            clear hb
            refine wpAnyH_ready (rs := [10]) (by kernel_rfl) (by simp) ?_
            refine AllReadyH.cons (o := ?o1032) ?ho1032 (fun K hK => ?st1032) AllReadyH.nil
            case ho1032 => (simp only [List.getElem?_toArray, List.getElem?_cons_succ, List.getElem?_cons_zero]; rfl)
            go_simp
            (try go_at_call 30)
            refine (refIntMul_any _ _ (xa - xc) (yb - yc) _ p1 p3 (Nat.le_trans (len_sub Lxa.out Lxc.out) (by omega)) (Nat.le_trans (len_sub Lyb.out Lyc.out) (by omega))).mono ?_
            rintro e V1033 ⟨v4, rfl, p4, hb⟩
            replace p1 := p1.next hb
            replace p3 := p3.next hb
            replace tX := tX.next hb
            clear p1 p3
            obtain ⟨q4, m4, c4, rfl⟩ := p4.parts
            refine hK.out _ _ (below_next hHeld hb) (fun hNew => ?_)
            clear hK K hHeld
            have hHeld := hNew
            clear hNew
            (try simp only [Act.put, List.setIfInBounds_toArray, List.set_cons_zero, List.set_cons_succ])
            clear hb
            refine wpAnyH_ready (rs := [12]) (by kernel_rfl) (by simp) ?_
            refine AllReadyH.cons (o := ?o1034) ?ho1034 (fun K hK => ?st1034) AllReadyH.nil
            case ho1034 => (simp only [List.getElem?_toArray, List.getElem?_cons_succ, List.getElem?_cons_zero]; rfl)
            have x0 := tX.c0; have x1 := tX.c1; have x2 := tX.f0; have x3 := tX.f1
            go_simp
            refine hK.out _ _ (ks (ks hHeld hgX) hgX) (fun hNew => ?_)
            clear hK K hHeld x0 x1 x2 x3
            have hHeld := hNew
            clear hNew
            (try simp only [Act.put, List.setIfInBounds_toArray, List.set_cons_zero, List.set_cons_succ])
            refine wpAnyH_done (by kernel_rfl) ?_ _
            go_wp2_with fail
            go_meet
            exact Lib.hid ⟨_, _, _, _, rfl, tX.puts, p4.put tX, hHeld⟩
        case st1014 =>
          go_simp
          refine hK.out _ _ (below_next hHeld bal) (fun hNew => ?_)
          clear hK K
          have hgX := hHeld.size
          have tX := Two.made (w := V1012) (b := V1012.heap.size) (T := 36) (.bool false) (.slice none 0 0) rfl
          clear hHeld
          have hHeld := hNew
          clear hNew
          (try simp only [Act.put, List.setIfInBounds_toArray, List.set_cons_zero, List.set_cons_succ])
          have hbA : Below V1012.heap.size V1012 (V1012.alloc (.cells #[.bool false, .slice none 0 0] 36)) := bal
          replace p1 := p1.next hbA
          clear hbA
          refine wpAnyH_ready (rs := [7]) (by kernel_rfl) (by simp) ?_
          refine AllReadyH.cons (o := ?o1036) ?ho1036 (fun K hK => ?st1036) AllReadyH.nil
          case ho1036 => (simp only [List.getElem?_toArray, List.getElem?_cons_succ, List.getElem?_cons_zero]; rfl)
          go_simp
          (try go_at_call 16)
          refine (Hb2.out _).mono ?_
          rintro e V1037 ⟨v2, rfl, p2, hb⟩
          replace p1 := p1.next hb
          replace tX := tX.next hb
          refine hK.out _ _ (below_next hHeld hb) (fun hNew => ?_)
          clear hK K hHeld
          have hHeld := hNew
          clear hNew
          (try simp only [Act.put, List.setIfInBounds_toArray, List.set_cons_zero, List.set_cons_succ])
          clear hb
          refine wpAnyH_ready (rs := [9]) (by kernel_rfl) (by simp) ?_
          refine AllReadyH.cons (o := ?o1038) ?ho1038 (fun K hK => ?st1038) AllReadyH.nil
          case ho1038 => (simp only [List.getElem?_toArray, List.getElem?_cons_succ, List.getElem?_cons_zero]; rfl)
          go_simp
          (try go_at_call 18)
          refine (refIntSub_any _ _ yb yc _ p2 (pcy.next hHeld) (by have := Lyb.out; omega) (by have := Lyc.out; omega)).mono ?_
          rintro e V1039 ⟨v3, rfl, p3, hb⟩
          replace p1 := p1.next hb
          replace p2 := p2.next hb
          replace tX := tX.next hb
          clear p2
          refine hK.out _ _ (below_next hHeld hb) (fun hNew => ?_)
          clear hK K hHeld
          have hHeld := hNew
          clear hNew
          (try simp only [Act.put, List.setIfInBounds_toArray, List.set_cons_zero, List.set_cons_succ])
          clear hb
          refine wpAnyH_ready (rs := [10]) (by kernel_rfl) (by simp) ?_
          refine AllReadyH.cons (o := ?o1040) ?ho1040 (fun K hK => ?st1040) AllReadyH.nil
          case ho1040 => (simp only [List.getElem?_toArray, List.getElem?_cons_succ, List.getElem?_cons_zero]; rfl)
          go_simp
          (try go_at_call 30)
          refine (refIntMul_any _ _ (xa - xc) (yb - yc) _ p1 p3 (Nat.le_trans (len_sub Lxa.out Lxc.out) (by omega)) (Nat.le_trans (len_sub Lyb.out Lyc.out) (by omega))).mono ?_
          rintro e V1041 ⟨v4, rfl, p4, hb⟩
          replace p1 := p1.next hb
          replace p3 := p3.next hb
          replace tX := tX.next hb
          clear p1 p3
          obtain ⟨q4, m4, c4, rfl⟩ := p4.parts
          refine hK.out _ _ (below_next hHeld hb) (fun hNew => ?_)
          clear hK K hHeld
          have hHeld := hNew
          clear hNew
          (try simp only [Act.put, List.setIfInBounds_toArray, List.set_cons_zero, List.set_cons_succ])
          clear hb
          refine wpAnyH_ready (rs := [12]) (by kernel_rfl) (by simp) ?_
          refine AllReadyH.cons (o := ?o1042) ?ho1042 (fun K hK => ?st1042) AllReadyH.nil
          case ho1042 => (simp only [List.getElem?_toArray, List.getElem?_cons_succ, List.getElem?_cons_zero]; rfl)
          have x0 := tX.c0; have x1 := tX.c1; have x2 := tX.f0; have x3 := tX.f1
          go_simp
          refine hK.out _ _ (ks (ks hHeld hgX) hgX) (fun hNew => ?_)
          clear hK K hHeld x0 x1 x2 x3
          have hHeld := hNew
          clear hNew
          (try simp only [Act.put, List.setIfInBounds_toArray, List.set_cons_zero, List.set_cons_succ])
          refine wpAnyH_done (by kernel_rfl) ?_ _
          go_wp2_with fail
          go_meet
          exact Lib.hid ⟨_, _, _, _, rfl, tX.puts, p4.put tX, hHeld⟩
      case st1011 =>
        go_simp
        refine hK.out _ _ (below_next hHeld bal) (fun hNew => ?_)
        clear hK K
        have hgX := hHeld.size
        have tX := Two.made (w := V1009) (b := V1009.heap.size) (T := 36) (.bool false) (.slice none 0 0) rfl
        clear hHeld
        have hHeld := hNew
        clear hNew
        (try simp only [Act.put, List.setIfInBounds_toArray, List.set_cons_zero, List.set_cons_succ])
        have hbA : Below V1009.heap.size V1009 (V1009.alloc (.cells #[.bool false, .slice none 0 0] 36)) := bal
        replace p0 := p0.next hbA
        clear hbA
        refine wpAnyH_ready (rs := [4]) (by kernel_rfl) (by simp) ?_
        refine AllReadyH.cons (o := ?o1044) ?ho1044 (fun K hK => ?st1044) AllReadyH.nil
        case ho1044 => (simp only [List.getElem?_toArray, List.getElem?_cons_succ, List.getElem?_cons_zero]; rfl)
        go_simp
        (try go_at_call 18)
        refine (refIntSub_any _ _ xa xc _ p0 (pcx.next hHeld) (by have := Lxa.out; omega) (by have := Lxc.out; omega)).mono ?_
        rintro e V1045 ⟨v1, rfl, p1, hb⟩
        replace p0 := p0.next hb
        replace tX := tX.next hb
        clear p0
        refine hK.out _ _ (below_next hHeld hb) (fun hNew => ?_)
        clear hK K hHeld
        have hHeld := hNew
        clear hNew
        (try simp only [Act.put, List.setIfInBounds_toArray, List.set_cons_zero, List.set_cons_succ])
        clear hb
        refine wpAnyH_ready (rs := [7]) (by kernel_rfl) (by simp) ?_
        refine AllReadyH.cons (o := ?o1046) ?ho1046 (fun K hK => ?st1046) AllReadyH.nil
        case ho1046 => (simp only [List.getElem?_toArray, List.getElem?_cons_succ, List.getElem?_cons_zero]; rfl)
        go_simp
        (try go_at_call 16)
        refine (Hb2.out _).mono ?_
        rintro e V1047 ⟨v2, rfl, p2, hb⟩
        replace p1 := p1.next hb
        replace tX := tX.next hb
        refine hK.out _ _ (below_next hHeld hb) (fun hNew => ?_)
        clear hK K hHeld
        have hHeld := hNew
        clear hNew
        (try simp only [Act.put, List.setIfInBounds_toArray, List.set_cons_zero, List.set_cons_succ])
        clear hb
        refine wpAnyH_ready (rs := [9]) (by kernel_rfl) (by simp) ?_
        refine AllReadyH.cons (o := ?o1048) ?ho1048 (fun K hK => ?st1048) AllReadyH.nil
        case ho1048 => (simp only [List.getElem?_toArray, List.getElem?_cons_succ, List.getElem?_cons_zero]; rfl)
        go_simp
        (try go_at_call 18)
        refine (refIntSub_any _ _ yb yc _ p2 (pcy.next hHeld) (by have := Lyb.out; omega) (by have := Lyc.out; omega)).mono ?_
        rintro e V1049 ⟨v3, rfl, p3, hb⟩
        replace p1 := p1.next hb
        replace p2 := p2.next hb
        replace tX := tX.next hb
        clear p2
        refine hK.out _ _ (below_next hHeld hb) (fun hNew => ?_)
        clear hK K hHeld
        have hHeld := hNew
        clear hNew
        (try simp only [Act.put, List.setIfInBounds_toArray, List.set_cons_zero, List.set_cons_succ])
        clear hb
        refine wpAnyH_ready (rs := [10]) (by kernel_rfl) (by simp) ?_
        refine AllReadyH.cons (o := ?o1050) ?ho1050 (fun K hK => ?st1050) AllReadyH.nil
        case ho1050 => (simp only [List.getElem?_toArray, List.getElem?_cons_succ, List.getElem?_cons_zero]; rfl)
        go_simp
        (try go_at_call 30)
        refine (refIntMul_any _ _ (xa - xc) (yb - yc) _ p1 p3 (Nat.le_trans (len_sub Lxa.out Lxc.out) (by omega)) (Nat.le_trans (len_sub Lyb.out Lyc.out) (by omega))).mono ?_
        rintro e V1051 ⟨v4, rfl, p4, hb⟩
        replace p1 := p1.next hb
        replace p3 := p3.next hb
        replace tX := tX.next hb
        clear p1 p3
        obtain ⟨q4, m4, c4, rfl⟩ := p4.parts
        refine hK.out _ _ (below_next hHeld hb) (fun hNew => ?_)
        clear hK K hHeld
        have hHeld := hNew
        clear hNew
        (try simp only [Act.put, List.setIfInBounds_toArray, List.set_cons_zero, List.set_cons_succ])
        clear hb
        refine wpAnyH_ready (rs := [12]) (by kernel_rfl) (by simp) ?_
        refine AllReadyH.cons (o := ?o1052) ?ho1052 (fun K hK => ?st1052) AllReadyH.nil
        case ho1052 => (simp only [List.getElem?_toArray, List.getElem?_cons_succ, List.getElem?_cons_zero]; rfl)
        have x0 := tX.c0; have x1 := tX.c1; have x2 := tX.f0; have x3 := tX.f1
        go_simp
        refine hK.out _ _ (ks (ks hHeld hgX) hgX) (fun hNew => ?_)
        clear hK K hHeld x0 x1 x2 x3
        have hHeld := hNew
        clear hNew
        (try simp only [Act.put, List.setIfInBounds_toArray, List.set_cons_zero, List.set_cons_succ])
        refine wpAnyH_done (by kernel_rfl) ?_ _
        go_wp2_with fail
        go_meet
        exact Lib.hid ⟨_, _, _, _, rfl, tX.puts, p4.put tX, hHeld⟩
    case st1008 =>
      go_simp
      refine hK.out _ _ (below_next hHeld bal) (fun hNew => ?_)
      clear hK K
      have hgX := hHeld.size
      have tX := Two.made (w := W4.drew) (b := W4.heap.size) (T := 36) (.bool false) (.slice none 0 0) rfl
      clear hHeld
      have hHeld := hNew
      clear hNew
      (try simp only [Act.put, List.setIfInBounds_toArray, List.set_cons_zero, List.set_cons_succ])
      refine wpAnyH_ready (rs := [2]) (by kernel_rfl) (by simp) ?_
      refine AllReadyH.cons (o := ?o1054) ?ho1054 (fun K hK => ?st1054) AllReadyH.nil
      case ho1054 => (simp only [List.getElem?_toArray, List.getElem?_cons_succ, List.getElem?_cons_zero]; rfl)
      go_simp
      (try go_at_call 16)
      refine (Hax.out _).mono ?_
      rintro e V1055 ⟨v0, rfl, p0, hb⟩
      replace tX := tX.next hb
      refine hK.out _ _ (below_next hHeld hb) (fun hNew => ?_)
      clear hK K hHeld
      have hHeld := hNew
      clear hNew
      (try simp only [Act.put, List.setIfInBounds_toArray, List.set_cons_zero, List.set_cons_succ])
      clear hb
      refine wpAnyH_ready (rs := [4]) (by kernel_rfl) (by simp) ?_
      refine AllReadyH.cons (o := ?o1056) ?ho1056 (fun K hK => ?st1056) AllReadyH.nil
      case ho1056 => (simp only [List.getElem?_toArray, List.getElem?_cons_succ, List.getElem?_cons_zero]; rfl)
      go_simp
      (try go_at_call 18)
      refine (refIntSub_any _ _ xa xc _ p0 (pcx.next hHeld) (by have := Lxa.out; omega) (by have := Lxc.out; omega)).mono ?_
      rintro e V1057 ⟨v1, rfl, p1, hb⟩
      replace p0 := p0.next hb
      replace tX := tX.next hb
      clear p0
      refine hK.out _ _ (below_next hHeld hb) (fun hNew => ?_)
      clear hK K hHeld
      have hHeld := hNew
      clear hNew
      (try simp only [Act.put, List.setIfInBounds_toArray, List.set_cons_zero, List.set_cons_succ])
      clear hb
      refine wpAnyH_ready (rs := [7]) (by kernel_rfl) (by simp) ?_
      refine AllReadyH.cons (o := ?o1058) ?ho1058 (fun K hK => ?st1058) AllReadyH.nil
      case ho1058 => (simp only [List.getElem?_toArray, List.getElem?_cons_succ, List.getElem?_cons_zero]; rfl)
      go_simp
      (try go_at_call 16)
      refine (Hb2.out _).mono ?_
      rintro e V1059 ⟨v2, rfl, p2, hb⟩
      replace p1 := p1.next hb
      replace tX := tX.next hb
      refine hK.out _ _ (below_next hHeld hb) (fun hNew => ?_)
      clear hK K hHeld
      have hHeld := hNew
      clear hNew
      (try simp only [Act.put, List.setIfInBounds_toArray, List.set_cons_zero, List.set_cons_succ])
      clear hb
      refine wpAnyH_ready (rs := [9]) (by kernel_rfl) (by simp) ?_
      refine AllReadyH.cons (o := ?o1060) ?ho1060 (fun K hK => ?st1060) AllReadyH.nil
      case ho1060 => (simp only [List.getElem?_toArray, List.getElem?_cons_succ, List.getElem?_cons_zero]; rfl)
      go_simp
      (try go_at_call 18)
      refine (refIntSub_any _ _ yb yc _ p2 (pcy.next hHeld) (by have := Lyb.out; omega) (by have := Lyc.out; omega)).mono ?_
      rintro e V1061 ⟨v3, rfl, p3, hb⟩
      replace p1 := p1.next hb
      replace p2 := p2.next hb
      replace tX := tX.next hb
      clear p2
      refine hK.out _ _ (below_next hHeld hb) (fun hNew => ?_)
      clear hK K hHeld
      have hHeld := hNew
      clear hNew
      (try simp only [Act.put, List.setIfInBounds_toArray, List.set_cons_zero, List.set_cons_succ])
      clear hb
      refine wpAnyH_ready (rs := [10]) (by kernel_rfl) (by simp) ?_
      refine AllReadyH.cons (o := ?o1062) ?ho1062 (fun K hK => ?st1062) AllReadyH.nil
      case ho1062 => (simp only [List.getElem?_toArray, List.getElem?_cons_succ, List.getElem?_cons_zero]; rfl)
      go_simp
      (try go_at_call 30)
      refine (refIntMul_any _ _ (xa - xc) (yb - yc) _ p1 p3 (Nat.le_trans (len_sub Lxa.out Lxc.out) (by omega)) (Nat.le_trans (len_sub Lyb.out Lyc.out) (by omega))).mono ?_
      rintro e V1063 ⟨v4, rfl, p4, hb⟩
      replace p1 := p1.next hb
      replace p3 := p3.next hb
      replace tX := tX.next hb
      clear p1 p3
      obtain ⟨q4, m4, c4, rfl⟩ := p4.parts
      refine hK.out _ _ (below_next hHeld hb) (fun hNew => ?_)
      clear hK K hHeld
      have hHeld := hNew
      clear hNew
      (try simp only [Act.put, List.setIfInBounds_toArray, List.set_cons_zero, List.set_cons_succ])
      clear hb
      refine wpAnyH_ready (rs := [12]) (by kernel_rfl) (by simp) ?_
      refine AllReadyH.cons (o := ?o1064) ?ho1064 (fun K hK => ?st1064) AllReadyH.nil
      case ho1064 => (simp only [List.getElem?_toArray, List.getElem?_cons_succ, List.getElem?_cons_zero]; rfl)
      have x0 := tX.c0; have x1 := tX.c1; have x2 := tX.f0; have x3 := tX.f1
      go_simp
      refine hK.out _ _ (ks (ks hHeld hgX) hgX) (fun hNew => ?_)
      clear hK K hHeld x0 x1 x2 x3
      have hHeld := hNew
      clear hNew
      (try simp only [Act.put, List.setIfInBounds_toArray, List.set_cons_zero, List.set_cons_succ])
      refine wpAnyH_done (by kernel_rfl) ?_ _
      go_wp2_with fail
      go_meet
      exact Lib.hid ⟨_, _, _, _, rfl, tX.puts, p4.put tX, hHeld⟩
  obtain ⟨gpL, qpL, mpL, cpL, rfl, tL, pL, hbX⟩ := hcut.out
  clear hcut
  replace pcx := pcx.next hbX
  replace pcy := pcy.next hbX
  replace tA := tA.next hbX
  replace tB := tB.next hbX
  replace tU := tU.next hbX
  replace tV := tV.next hbX
  replace hW := below_next hW hbX
  clear hbX
  go_upto_region 4 with fail
  go_cut [10] (fun s10 wx => Hid (∃ (g : Nat) (q : Option Addr) (m c : Nat), s10 = .pointer (some ⟨g, 0, none⟩) ∧ Two wx g (.bool (decide ((ya - yc) * (xb - xc) < 0))) (.slice q m c) 36 ∧ NumAt wx (.agg #[.bool (decide ((ya - yc) * (xb - xc) < 0)), .slice q m c]) ((ya - yc) * (xb - xc)) ∧ Below wc.heap.size wc wx))
  case first =>
    refine wp_region_held_drew (S := fun w' => Below wc.heap.size wc w') (by kernel_rfl) kd0 (fun hHeld => ?_)
    refine wpAnyH_take (i := 0) (oi := ?oi1065) (v := ?v1065) ?hi1065 ?h11065 ?h21065 ?h31065 ?hQ1065 (Or.inl ⟨?hw1065, ?hy1065⟩) hHeld ?rest1065
    case hi1065 => (simp only [List.getElem?_toArray, List.getElem?_cons_zero]; rfl)
    case h11065 => kernel_rfl
    case h21065 => kernel_rfl
    case h31065 => kernel_rfl
    case hQ1065 => exact fun _ _ _ h => h
    case hw1065 => rfl
    case hy1065 => (intro w hSw; go_simp; first | done | with_reducible rfl)
    (try simp only [Act.put, List.setIfInBounds_toArray, List.set_cons_zero, List.set_cons_succ])
    refine wpAnyH_take (i := 1) (oi := ?oi1066) (v := ?v1066) ?hi1066 ?h11066 ?h21066 ?h31066 ?hQ1066 (Or.inl ⟨?hw1066, ?hy1066⟩) hHeld ?rest1066
    case hi1066 => (simp only [List.getElem?_toArray, List.getElem?_cons_succ, List.getElem?_cons_zero]; rfl)
    case h11066 => kernel_rfl
    case h21066 => kernel_rfl
    case h31066 => kernel_rfl
    case hQ1066 => exact fun _ _ _ h => h
    case hw1066 => rfl
    case hy1066 => (intro w hSw; have ztA0 := (tA.next hSw).c0; have ztA1 := (tA.next hSw).c1; go_simp; first | done | with_reducible rfl)
    (try simp only [Act.put, List.setIfInBounds_toArray, List.set_cons_zero, List.set_cons_succ])
    refine wpAnyH_take (i := 3) (oi := ?oi1067) (v := ?v1067) ?hi1067 ?h11067 ?h21067 ?h31067 ?hQ1067 (Or.inl ⟨?hw1067, ?hy1067⟩) hHeld ?rest1067
    case hi1067 => (simp only [List.getElem?_toArray, List.getElem?_cons_succ, List.getElem?_cons_zero]; rfl)
    case h11067 => kernel_rfl
    case h21067 => kernel_rfl
    case h31067 => kernel_rfl
    case hQ1067 => exact fun _ _ _ h => h
    case hw1067 => rfl
    case hy1067 => (intro w hSw; have ztV0 := (tV.next hSw).c0; have ztV1 := (tV.next hSw).c1; go_simp; first | done | with_reducible rfl)
    (try simp only [Act.put, List.setIfInBounds_toArray, List.set_cons_zero, List.set_cons_succ])
    refine wpAnyH_take (i := 5) (oi := ?oi1068) (v := ?v1068) ?hi1068 ?h11068 ?h21068 ?h31068 ?hQ1068 (Or.inl ⟨?hw1068, ?hy1068⟩) hHeld ?rest1068
    case hi1068 => (simp only [List.getElem?_toArray, List.getElem?_cons_succ, List.getElem?_cons_zero]; rfl)
    case h11068 => kernel_rfl
    case h21068 => kernel_rfl
    case h31068 => kernel_rfl
    case hQ1068 => exact fun _ _ _ h => h
    case hw1068 => rfl
    case hy1068 => (intro w hSw; go_simp; first | done | with_reducible rfl)
    (try simp only [Act.put, List.setIfInBounds_toArray, List.set_cons_zero, List.set_cons_succ])
    refine wpAnyH_take (i := 6) (oi := ?oi1069) (v := ?v1069) ?hi1069 ?h11069 ?h21069 ?h31069 ?hQ1069 (Or.inl ⟨?hw1069, ?hy1069⟩) hHeld ?rest1069
    case hi1069 => (simp only [List.getElem?_toArray, List.getElem?_cons_succ, List.getElem?_cons_zero]; rfl)
    case h11069 => kernel_rfl
    case h21069 => kernel_rfl
    case h31069 => kernel_rfl
    case hQ1069 => exact fun _ _ _ h => h
    case hw1069 => rfl
    case hy1069 => (intro w hSw; have ztB0 := (tB.next hSw).c0; have ztB1 := (tB.next hSw).c1; go_simp; first | done | with_reducible rfl)
    (try simp only [Act.put, List.setIfInBounds_toArray, List.set_cons_zero, List.set_cons_succ])
    refine wpAnyH_take (i := 8) (oi := ?oi1070) (v := ?v1070) ?hi1070 ?h11070 ?h21070 ?h31070 ?hQ1070 (Or.inl ⟨?hw1070, ?hy1070⟩) hHeld ?rest1070
    case hi1070 => (simp only [List.getElem?_toArray, List.getElem?_cons_succ, List.getElem?_cons_zero]; rfl)
    case h11070 => kernel_rfl
    case h21070 => kernel_rfl
    case h31070 => kernel_rfl
    case hQ1070 => exact fun _ _ _ h => h
    case hw1070 => rfl
    case hy1070 => (intro w hSw; have ztU0 := (tU.next hSw).c0; have ztU1 := (tU.next hSw).c1; go_simp; first | done | with_reducible rfl)
    (try simp only [Act.put, List.setIfInBounds_toArray, List.set_cons_zero, List.set_cons_succ])
    refine wpAnyH_ready (rs := [2, 11]) (by kernel_rfl) (by simp) ?_
    refine AllReadyH.cons (o := ?o1071) ?ho1071 (fun K hK => ?st1071) (AllReadyH.cons (o := ?o1072) ?ho1072 (fun K hK => ?st1072) AllReadyH.nil)
    case ho1071 => (simp only [List.getElem?_toArray, List.getElem?_cons_succ, List.getElem?_cons_zero]; rfl)
    case ho1072 => (simp only [List.getElem?_toArray, List.getElem?_cons_succ, List.getElem?_cons_zero]; rfl)
    case st1071 =>
      go_simp
      (try go_at_call 16)
      refine (Hay.out _).mono ?_
      rintro e V1073 ⟨v0, rfl, p0, hb⟩
      refine hK.out _ _ (below_next hHeld hb) (fun hNew => ?_)
      clear hK K hHeld
      have hHeld := hNew
      clear hNew
      (try simp only [Act.put, List.setIfInBounds_toArray, List.set_cons_zero, List.set_cons_succ])
      clear hb
      refine wpAnyH_ready (rs := [4, 11]) (by kernel_rfl) (by simp) ?_
      refine AllReadyH.cons (o := ?o1074) ?ho1074 (fun K hK => ?st1074) (AllReadyH.cons (o := ?o1075) ?ho1075 (fun K hK => ?st1075) AllReadyH.nil)
      case ho1074 => (simp only [List.getElem?_toArray, List.getElem?_cons_succ, List.getElem?_cons_zero]; rfl)
      case ho1075 => (simp only [List.getElem?_toArray, List.getElem?_cons_succ, List.getElem?_cons_zero]; rfl)
      case st1074 =>
        go_simp
        (try go_at_call 18)
        refine (refIntSub_any _ _ ya yc _ p0 (pcy.next hHeld) (by have := Lya.out; omega) (by have := Lyc.out; omega)).mono ?_
        rintro e V1076 ⟨v1, rfl, p1, hb⟩
        replace p0 := p0.next hb
        clear p0
        refine hK.out _ _ (below_next hHeld hb) (fun hNew => ?_)
        clear hK K hHeld
        have hHeld := hNew
        clear hNew
        (try simp only [Act.put, List.setIfInBounds_toArray, List.set_cons_zero, List.set_cons_succ])
        clear hb
        refine wpAnyH_ready (rs := [7, 11]) (by kernel_rfl) (by simp) ?_
        refine AllReadyH.cons (o := ?o1077) ?ho1077 (fun K hK => ?st1077) (AllReadyH.cons (o := ?o1078) ?ho1078 (fun K hK => ?st1078) AllReadyH.nil)
        case ho1077 => (simp only [List.getElem?_toArray, List.getElem?_cons_succ, List.getElem?_cons_zero]; rfl)
        case ho1078 => (simp only [List.getElem?_toArray, List.getElem?_cons_succ, List.getElem?_cons_zero]; rfl)
        case st1077 =>
          go_simp
          (try go_at_call 16)
          refine (Hbx.out _).mono ?_
          rintro e V1079 ⟨v2, rfl, p2, hb⟩
          replace p1 := p1.next hb
          refine hK.out _ _ (below_next hHeld hb) (fun hNew => ?_)
          clear hK K hHeld
          have hHeld := hNew
          clear hNew
          (try simp only [Act.put, List.setIfInBounds_toArray, List.set_cons_zero, List.set_cons_succ])
          clear hb
          refine wpAnyH_ready (rs := [9, 11]) (by kernel_rfl) (by simp) ?_
          refine AllReadyH.cons (o := ?o1080) ?ho1080 (fun K hK => ?st1080) (AllReadyH.cons (o := ?o1081) ?ho1081 (fun K hK => ?st1081) AllReadyH.nil)
          case ho1080 => (simp only [List.getElem?_toArray, List.getElem?_cons_succ, List.getElem?_cons_zero]; rfl)
          case ho1081 => (simp only [List.getElem?_toArray, List.getElem?_cons_succ, List.getElem?_cons_zero]; rfl)
          case st1080 =>
            go_simp
            (try go_at_call 18)
            refine (refIntSub_any _ _ xb xc _ p2 (pcx.next hHeld) (by have := Lxb.out; omega) (by have := Lxc.out; omega)).mono ?_
            rintro e V1082 ⟨v3, rfl, p3, hb⟩
            replace p1 := p1.next hb
            replace p2 := p2.next hb
            clear p2
            refine hK.out _ _ (below_next hHeld hb) (fun hNew => ?_)
            clear hK K hHeld
            have hHeld := hNew
            clear hNew
            (try simp only [Act.put, List.setIfInBounds_toArray, List.set_cons_zero, List.set_cons_succ])
            clear hb
            refine wpAnyH_ready (rs := [10, 11]) (by kernel_rfl) (by simp) ?_
            refine AllReadyH.cons (o := ?o1083) ?ho1083 (fun K hK => ?st1083) (AllReadyH.cons (o := ?o1084) ?ho1084 (fun K hK => ?st1084) AllReadyH.nil)
            case ho1083 => (simp only [List.getElem?_toArray, List.getElem?_cons_succ, List.getElem?_cons_zero]; rfl)
            case ho1084 => (simp only [List.getElem?_toArray, List.getElem?_cons_succ, List.getElem?_cons_zero]; rfl)
            case st1083 =>
              go_simp
              (try go_at_call 30)
              refine (refIntMul_any _ _ (ya - yc) (xb - xc) _ p1 p3 (Nat.le_trans (len_sub Lya.out Lyc.out) (by omega)) (Nat.le_trans (len_sub Lxb.out Lxc.out) (by omega))).mono ?_
              rintro e V1085 ⟨v4, rfl, p4, hb⟩
              replace p1 := p1.next hb
              replace p3 := p3.next hb
              clear p1 p3
              obtain ⟨q4, m4, c4, rfl⟩ := p4.parts
              refine hK.out _ _ (below_next hHeld hb) (fun hNew => ?_)
              clear hK K hHeld
              have hHeld := hNew
              clear hNew
              (try simp only [Act.put, List.setIfInBounds_toArray, List.set_cons_zero, List.set_cons_succ])
              clear hb
              refine wpAnyH_ready (rs := [11]) (by kernel_rfl) (by simp) ?_
              refine AllReadyH.cons (o := ?o1086) ?ho1086 (fun K hK => ?st1086) AllReadyH.nil
              case ho1086 => (simp only [List.getElem?_toArray, List.getElem?_cons_succ, List.getElem?_cons_zero]; rfl)
              have hOld := hHeld
              go_simp
              refine hK.out _ _ (below_next hHeld bal) (fun hNew => ?_)
              clear hK K
              have hgX := hHeld.size
              have tX := Two.made (w := V1085) (b := V1085.heap.size) (T := 36) (.bool false) (.slice none 0 0) rfl
              clear hHeld
              have hHeld := hNew
              clear hNew
              (try simp only [Act.put, List.setIfInBounds_toArray, List.set_cons_zero, List.set_cons_succ])
              refine wpAnyH_ready (rs := [12]) (by kernel_rfl) (by simp) ?_
              refine AllReadyH.cons (o := ?o1088) ?ho1088 (fun K hK => ?st1088) AllReadyH.nil
              case ho1088 => (simp only [List.getElem?_toArray, List.getElem?_cons_succ, List.getElem?_cons_zero]; rfl)
              have x0 := tX.c0; have x1 := tX.c1; have x2 := tX.f0; have x3 := tX.f1
              go_simp
              refine hK.out _ _ (below_next hOld bal) (fun hNew => ?_)
              clear hK K hHeld x0 x1 x2 x3
              have hHeld := hNew
              clear hNew
              (try simp only [Act.put, List.setIfInBounds_toArray, List.set_cons_zero, List.set_cons_succ])
              refine wpAnyH_done (by kernel_rfl) ?_ _
              go_wp2_with fail
              go_meet
              exact Lib.hid ⟨_, _, _, _, rfl, Two.new _ _ _ _, p4.next bal, below_next hOld bal⟩
            case st1084 =>
              go_simp
              refine hK.out _ _ (below_next hHeld bal) (fun hNew => ?_)
              clear hK K
              have hgX := hHeld.size
              have tX := Two.made (w := V1082) (b := V1082.heap.size) (T := 36) (.bool false) (.slice none 0 0) rfl
              clear hHeld
              have hHeld := hNew
              clear hNew
              (try simp only [Act.put, List.setIfInBounds_toArray, List.set_cons_zero, List.set_cons_succ])
              have hbA : Below V1082.heap.size V1082 (V1082.alloc (.cells #[.bool false, .slice none 0 0] 36)) := bal
              replace p1 := p1.next hbA
              replace p3 := p3.next hbA
              clear hbA
              refine wpAnyH_ready (rs := [10]) (by kernel_rfl) (by simp) ?_
              refine AllReadyH.cons (o := ?o1090) ?ho1090 (fun K hK => ?st1090) AllReadyH.nil
              case ho1090 => (simp only [List.getElem?_toArray, List.getElem?_cons_succ, List.getElem?_cons_zero]; rfl)
              go_simp
              (try go_at_call 30)
              refine (refIntMul_any _ _ (ya - yc) (xb - xc) _ p1 p3 (Nat.le_trans (len_sub Lya.out Lyc.out) (by omega)) (Nat.le_trans (len_sub Lxb.out Lxc.out) (by omega))).mono ?_
              rintro e V1091 ⟨v4, rfl, p4, hb⟩
              replace p1 := p1.next hb
              replace p3 := p3.next hb
              replace tX := tX.next hb
              clear p1 p3
              obtain ⟨q4, m4, c4, rfl⟩ := p4.parts
              refine hK.out _ _ (below_next hHeld hb) (fun hNew => ?_)
              clear hK K hHeld
              have hHeld := hNew
              clear hNew
              (try simp only [Act.put, List.setIfInBounds_toArray, List.set_cons_zero, List.set_cons_succ])
              clear hb
              refine wpAnyH_ready (rs := [12]) (by kernel_rfl) (by simp) ?_
              refine AllReadyH.cons (o := ?o1092) ?ho1092 (fun K hK => ?st1092) AllReadyH.nil
              case ho1092 => (simp only [List.getElem?_toArray, List.getElem?_cons_succ, List.getElem?_cons_zero]; rfl)
              have x0 := tX.c0; have x1 := tX.c1; have x2 := tX.f0; have x3 := tX.f1
              go_simp
              refine hK.out _ _ (ks (ks hHeld hgX) hgX) (fun hNew => ?_)
              clear hK K hHeld x0 x1 x2 x3
              have hHeld := hNew
              clear hNew
              (try simp only [Act.put, List.setIfInBounds_toArray, List.set_cons_zero, List.set_cons_succ])
              refine wpAnyH_done (by kernel_rfl) ?_ _
              go_wp2_with fail
              go_meet
              exact Lib.hid ⟨_, _, _, _, rfl, tX.puts, p4.put tX, hHeld⟩
          case st1081 =>
            go_simp
            refine hK.out _ _ (below_next hHeld bal) (fun hNew => ?_)
            clear hK K
            have hgX := hHeld.size
            have tX := Two.made (w := V1079) (b := V1079.heap.size) (T := 36) (.bool false) (.slice none 0 0) rfl
            clear hHeld
            have hHeld := hNew
            clear hNew
            (try simp only [Act.put, List.setIfInBounds_toArray, List.set_cons_zero, List.set_cons_succ])
            have hbA : Below V1079.heap.size V1079 (V1079.alloc (.cells #[.bool false, .slice none 0 0] 36)) := bal
            replace p1 := p1.next hbA
            replace p2 := p2.next hbA
            clear hbA
            refine wpAnyH_ready (rs := [9]) (by kernel_rfl) (by simp) ?_
            refine AllReadyH.cons (o := ?o1094) ?ho1094 (fun K hK => ?st1094) AllReadyH.nil
            case ho1094 => (simp only [List.getElem?_toArray, List.getElem?_cons_succ, List.getElem?_cons_zero]; rfl)
            go_simp
            (try go_at_call 18)
            refine (refIntSub_any _ _ xb xc _ p2 (pcx.next hHeld) (by have := Lxb.out; omega) (by have := Lxc.out; omega)).mono ?_
            rintro e V1095 ⟨v3, rfl, p3, hb⟩
            replace p1 := p1.next hb
            replace p2 := p2.next hb
            replace tX := tX.next hb
            clear p2
            refine hK.out _ _ (below_next hHeld hb) (fun hNew => ?_)
            clear hK K hHeld
            have hHeld := hNew
            clear hNew
            (try simp only [Act.put, List.setIfInBounds_toArray, List.set_cons_zero, List.set_cons_succ])
            clear hb
            refine wpAnyH_ready (rs := [10]) (by kernel_rfl) (by simp) ?_
            refine AllReadyH.cons (o := ?o1096) ?ho1096 (fun K hK => ?st1096) AllReadyH.nil
            case ho1096 => (simp only [List.getElem?_toArray, List.getElem?_cons_succ, List.getElem?_cons_zero]; rfl)
            go_simp
            (try go_at_call 30)
            refine (refIntMul_any _ _ (ya - yc) (xb - xc) _ p1 p3 (Nat.le_trans (len_sub Lya.out Lyc.out) (by omega)) (Nat.le_trans (len_sub Lxb.out Lxc.out) (by omega))).mono ?_
            rintro e V1097 ⟨v4, rfl, p4, hb⟩
            replace p1 := p1.next hb
            replace p3 := p3.next hb
            replace tX := tX.next hb
            clear p1 p3
            obtain ⟨q4, m4, c4, rfl⟩ := p4.parts
            refine hK.out _ _ (below_next hHeld hb) (fun hNew => ?_)
            clear hK K hHeld
            have hHeld := hNew
            clear hNew
            (try simp only [Act.put, List.setIfInBounds_toArray, List.set_cons_zero, List.set_cons_succ])
            clear hb
            refine wpAnyH_ready (rs := [12]) (by kernel_rfl) (by simp) ?_
            refine AllReadyH.cons (o := ?o1098) ?ho1098 (fun K hK => ?st1098) AllReadyH.nil
            case ho1098 => (simp only [List.getElem?_toArray, List.getElem?_cons_succ, List.getElem?_cons_zero]; rfl)
            have x0 := tX.c0; have x1 := tX.c1; have x2 := tX.f0; have x3 := tX.f1
            go_simp
            refine hK.out _ _ (ks (ks hHeld hgX) hgX) (fun hNew => ?_)
            clear hK K hHeld x0 x1 x2 x3
            have hHeld := hNew
            clear hNew
            (try simp only [Act.put, List.setIfInBounds_toArray, List.set_cons_zero, List.set_cons_succ])
            refine wpAnyH_done (by kernel_rfl) ?_ _
            go_wp2_with fail
            go_meet
            exact Lib.hid ⟨_, _, _, _, rfl, tX.puts, p4.put tX, hHeld⟩
        case st1078 =>
          go_simp
          refine hK.out _ _ (below_next hHeld bal) (fun hNew => ?_)
          clear hK K
          have hgX := hHeld.size
          have tX := Two.made (w := V1076) (b := V1076.heap.size) (T := 36) (.bool false) (.slice none 0 0) rfl
          clear hHeld
          have hHeld := hNew
          clear hNew
          (try simp only [Act.put, List.setIfInBounds_toArray, List.set_cons_zero, List.set_cons_succ])
          have hbA : Below V1076.heap.size V1076 (V1076.alloc (.cells #[.bool false, .slice none 0 0] 36)) := bal
          replace p1 := p1.next hbA
          clear hbA
          refine wpAnyH_ready (rs := [7]) (by kernel_rfl) (by simp) ?_
          refine AllReadyH.cons (o := ?o1100) ?ho1100 (fun K hK => ?st1100) AllReadyH.nil
          case ho1100 => (simp only [List.getElem?_toArray, List.getElem?_cons_succ, List.getElem?_cons_zero]; rfl)
          go_simp
          (try go_at_call 16)
          refine (Hbx.out _).mono ?_
          rintro e V1101 ⟨v2, rfl, p2, hb⟩
          replace p1 := p1.next hb
          replace tX := tX.next hb
          refine hK.out _ _ (below_next hHeld hb) (fun hNew => ?_)
          clear hK K hHeld
          have hHeld := hNew
          clear hNew
          (try simp only [Act.put, List.setIfInBounds_toArray, List.set_cons_zero, List.set_cons_succ])
          clear hb
          refine wpAnyH_ready (rs := [9]) (by kernel_rfl) (by simp) ?_
          refine AllReadyH.cons (o := ?o1102) ?ho1102 (fun K hK => ?st1102) AllReadyH.nil
          case ho1102 => (simp only [List.getElem?_toArray, List.getElem?_cons_succ, List.getElem?_cons_zero]; rfl)
          go_simp
          (try go_at_call 18)
          refine (refIntSub_any _ _ xb xc _ p2 (pcx.next hHeld) (by have := Lxb.out; omega) (by have := Lxc.out; omega)).mono ?_
          rintro e V1103 ⟨v3, rfl, p3, hb⟩
          replace p1 := p1.next hb
          replace p2 := p2.next hb
          replace tX := tX.next hb
          clear p2
          refine hK.out _ _ (below_next hHeld hb) (fun hNew => ?_)
          clear hK K hHeld
          have hHeld := hNew
          clear hNew
          (try simp only [Act.put, List.setIfInBounds_toArray, List.set_cons_zero, List.set_cons_succ])
          clear hb
          refine wpAnyH_ready (rs := [10]) (by kernel_rfl) (by simp) ?_
          refine AllReadyH.cons (o := ?o1104) ?ho1104 (fun K hK => ?st1104) AllReadyH.nil
          case ho1104 => (simp only [List.getElem?_toArray, List.getElem?_cons_succ, List.getElem?_cons_zero]; rfl)
          go_simp
          (try go_at_call 30)
          refine (refIntMul_any _ _ (ya - yc) (xb - xc) _ p1 p3 (Nat.le_trans (len_sub Lya.out Lyc.out) (by omega)) (Nat.le_trans (len_sub Lxb.out Lxc.out) (by omega))).mono ?_
          rintro e V1105 ⟨v4, rfl, p4, hb⟩
          replace p1 := p1.next hb
          replace p3 := p3.next hb
          replace tX := tX.next hb
          clear p1 p3
          obtain ⟨q4, m4, c4, rfl⟩ := p4.parts
          refine hK.out _ _ (below_next hHeld hb) (fun hNew => ?_)
          clear hK K hHeld
          have hHeld := hNew
          clear hNew
          (try simp only [Act.put, List.setIfInBounds_toArray, List.set_cons_zero, List.set_cons_succ])
          clear hb
          refine wpAnyH_ready (rs := [12]) (by kernel_rfl) (by simp) ?_
          refine AllReadyH.cons (o := ?o1106) ?ho1106 (fun K hK => ?st1106) AllReadyH.nil
          case ho1106 => (simp only [List.getElem?_toArray, List.getElem?_cons_succ, List.getElem?_cons_zero]; rfl)
          have x0 := tX.c0; have x1 := tX.c1; have x2 := tX.f0; have x3 := tX.f1
          go_simp
          refine hK.out _ _ (ks (ks hHeld hgX) hgX) (fun hNew => ?_)
          clear hK K hHeld x0 x1 x2 x3
          have hHeld := hNew
          clear hNew
          (try simp only [Act.put, List.setIfInBounds_toArray, List.set_cons_zero, List.set_cons_succ])
          refine wpAnyH_done (by kernel_rfl) ?_ _
          go_wp2_with fail
          go_meet
          exact Lib.hid ⟨_, _, _, _, rfl, tX.puts, p4.put tX, hHeld⟩
      case st1075 =>
        go_simp
        refine hK.out _ _ (below_next hHeld bal) (fun hNew => ?_)
        clear hK K
        have hgX := hHeld.size
        have tX := Two.made (w := V1073) (b := V1073.heap.size) (T := 36) (.bool false) (.slice none 0 0) rfl
        clear hHeld
        have hHeld := hNew
        clear hNew
        (try simp only [Act.put, List.setIfInBounds_toArray, List.set_cons_zero, List.set_cons_succ])
        have hbA : Below V1073.heap.size V1073 (V1073.alloc (.cells #[.bool false, .slice none 0 0] 36)) := bal
        replace p0 := p0.next hbA
        clear hbA
        refine wpAnyH_ready (rs := [4]) (by kernel_rfl) (by simp) ?_
        refine AllReadyH.cons (o := ?o1108) ?ho1108 (fun K hK => ?st1108) AllReadyH.nil
        case ho1108 => (simp only [List.getElem?_toArray, List.getElem?_cons_succ, List.getElem?_cons_zero]; rfl)
        go_simp
        (try go_at_call 18)
        refine (refIntSub_any _ _ ya yc _ p0 (pcy.next hHeld) (by have := Lya.out; omega) (by have := Lyc.out; omega)).mono ?_
        rintro e V1109 ⟨v1, rfl, p1, hb⟩
        replace p0 := p0.next hb
        replace tX := tX.next hb
        clear p0
        refine hK.out _ _ (below_next hHeld hb) (fun hNew => ?_)
        clear hK K hHeld
        have hHeld := hNew
        clear hNew
        (try simp only [Act.put, List.setIfInBounds_toArray, List.set_cons_zero, List.set_cons_succ])
        clear hb
        refine wpAnyH_ready (rs := [7]) (by kernel_rfl) (by simp) ?_
        refine AllReadyH.cons (o := ?o1110) ?ho1110 (fun K hK => ?st1110) AllReadyH.nil
        case ho1110 => (simp only [List.getElem?_toArray, List.getElem?_cons_succ, List.getElem?_cons_zero]; rfl)
        go_simp
        (try go_at_call 16)
        refine (Hbx.out _).mono ?_
        rintro e V1111 ⟨v2, rfl, p2, hb⟩
        replace p1 := p1.next hb
        replace tX := tX.next hb
        refine hK.out _ _ (below_next hHeld hb) (fun hNew => ?_)
        clear hK K hHeld
        have hHeld := hNew
        clear hNew
        (try simp only [Act.put, List.setIfInBounds_toArray, List.set_cons_zero, List.set_cons_succ])
        clear hb
        refine wpAnyH_ready (rs := [9]) (by kernel_rfl) (by simp) ?_
        refine AllReadyH.cons (o := ?o1112) ?ho1112 (fun K hK => ?st1112) AllReadyH.nil
        case ho1112 => (simp only [List.getElem?_toArray, List.getElem?_cons_succ, List.getElem?_cons_zero]; rfl)
        go_simp
        (try go_at_call 18)
        refine (refIntSub_any _ _ xb xc _ p2 (pcx.next hHeld) (by have := Lxb.out; omega) (by have := Lxc.out; omega)).mono ?_
        rintro e V1113 ⟨v3, rfl, p3, hb⟩
        replace p1 := p1.next hb
        replace p2 := p2.next hb
        replace tX := tX.next hb
        clear p2
        refine hK.out _ _ (below_next hHeld hb) (fun hNew => ?_)
        clear hK K hHeld
        have hHeld := hNew
        clear hNew
        (try simp only [Act.put, List.setIfInBounds_toArray, List.set_cons_zero, List.set_cons_succ])
        clear hb
        refine wpAnyH_ready (rs := [10]) (by kernel_rfl) (by simp) ?_
        refine AllReadyH.cons (o := ?o1114) ?ho1114 (fun K hK => ?st1114) AllReadyH.nil
        case ho1114 => (simp only [List.getElem?_toArray, List.getElem?_cons_succ, List.getElem?_cons_zero]; rfl)
        go_simp
        (try go_at_call 30)
        refine (refIntMul_any _ _ (ya - yc) (xb - xc) _ p1 p3 (Nat.le_trans (len_sub Lya.out Lyc.out) (by omega)) (Nat.le_trans (len_sub Lxb.out Lxc.out) (by omega))).mono ?_
        rintro e V1115 ⟨v4, rfl, p4, hb⟩
        replace p1 := p1.next hb
        replace p3 := p3.next hb
        replace tX := tX.next hb
        clear p1 p3
        obtain ⟨q4, m4, c4, rfl⟩ := p4.parts
        refine hK.out _ _ (below_next hHeld hb) (fun hNew => ?_)
        clear hK K hHeld
        have hHeld := hNew
        clear hNew
        (try simp only [Act.put, List.setIfInBounds_toArray, List.set_cons_zero, List.set_cons_succ])
        clear hb
        refine wpAnyH_ready (rs := [12]) (by kernel_rfl) (by simp) ?_
        refine AllReadyH.cons (o := ?o1116) ?ho1116 (fun K hK => ?st1116) AllReadyH.nil
        case ho1116 => (simp only [List.getElem?_toArray, List.getElem?_cons_succ, List.getElem?_cons_zero]; rfl)
        have x0 := tX.c0; have x1 := tX.c1; have x2 := tX.f0; have x3 := tX.f1
        go_simp
        refine hK.out _ _ (ks (ks hHeld hgX) hgX) (fun hNew => ?_)
        clear hK K hHeld x0 x1 x2 x3
        have hHeld := hNew
        clear hNew
        (try simp only [Act.put, List.setIfInBounds_toArray, List.set_cons_zero, List.set_cons_succ])
        refine wpAnyH_done (by kernel_rfl) ?_ _
        go_wp2_with fail
        go_meet
        exact Lib.hid ⟨_, _, _, _, rfl, tX.puts, p4.put tX, hHeld⟩
    case st1072 =>
      go_simp
      refine hK.out _ _ (below_next hHeld bal) (fun hNew => ?_)
      clear hK K
      have hgX := hHeld.size
      have tX := Two.made (w := wc.drew) (b := wc.heap.size) (T := 36) (.bool false) (.slice none 0 0) rfl
      clear hHeld
      have hHeld := hNew
      clear hNew
      (try simp only [Act.put, List.setIfInBounds_toArray, List.set_cons_zero, List.set_cons_succ])
      refine wpAnyH_ready (rs := [2]) (by kernel_rfl) (by simp) ?_
      refine AllReadyH.cons (o := ?o1118) ?ho1118 (fun K hK => ?st1118) AllReadyH.nil
      case ho1118 => (simp only [List.getElem?_toArray, List.getElem?_cons_succ, List.getElem?_cons_zero]; rfl)
      go_simp
      (try go_at_call 16)
      refine (Hay.out _).mono ?_
      rintro e V1119 ⟨v0, rfl, p0, hb⟩
      replace tX := tX.next hb
      refine hK.out _ _ (below_next hHeld hb) (fun hNew => ?_)
      clear hK K hHeld
      have hHeld := hNew
      clear hNew
      (try simp only [Act.put, List.setIfInBounds_toArray, List.set_cons_zero, List.set_cons_succ])
      clear hb
      refine wpAnyH_ready (rs := [4]) (by kernel_rfl) (by simp) ?_
      refine AllReadyH.cons (o := ?o1120) ?ho1120 (fun K hK => ?st1120) AllReadyH.nil
      case ho1120 => (simp only [List.getElem?_toArray, List.getElem?_cons_succ, List.getElem?_cons_zero]; rfl)
      go_simp
      (try go_at_call 18)
      refine (refIntSub_any _ _ ya yc _ p0 (pcy.next hHeld) (by have := Lya.out; omega) (by have := Lyc.out; omega)).mono ?_
      rintro e V1121 ⟨v1, rfl, p1, hb⟩
      replace p0 := p0.next hb
      replace tX := tX.next hb
      clear p0
      refine hK.out _ _ (below_next hHeld hb) (fun hNew => ?_)
      clear hK K hHeld
      have hHeld := hNew
      clear hNew
      (try simp only [Act.put, List.setIfInBounds_toArray, List.set_cons_zero, List.set_cons_succ])
      clear hb
      refine wpAnyH_ready (rs := [7]) (by kernel_rfl) (by simp) ?_
      refine AllReadyH.cons (o := ?o1122) ?ho1122 (fun K hK => ?st1122) AllReadyH.nil
      case ho1122 => (simp only [List.getElem?_toArray, List.getElem?_cons_succ, List.getElem?_cons_zero]; rfl)
      go_simp
      (try go_at_call 16)
      refine (Hbx.out _).mono ?_
      rintro e V1123 ⟨v2, rfl, p2, hb⟩
      replace p1 := p1.next hb
      replace tX := tX.next hb
      refine hK.out _ _ (below_next hHeld hb) (fun hNew => ?_)
      clear hK K hHeld
      have hHeld := hNew
      clear hNew
      (try simp only [Act.put, List.setIfInBounds_toArray, List.set_cons_zero, List.set_cons_succ])
      clear hb
      refine wpAnyH_ready (rs := [9]) (by kernel_rfl) (by simp) ?_
      refine AllReadyH.cons (o := ?o1124) ?ho1124 (fun K hK => ?st1124) AllReadyH.nil
      case ho1124 => (simp only [List.getElem?_toArray, List.getElem?_cons_succ, List.getElem?_cons_zero]; rfl)
      go_simp
      (try go_at_call 18)
      refine (refIntSub_any _ _ xb xc _ p2 (pcx.next hHeld) (by have := Lxb.out; omega) (by have := Lxc.out; omega)).mono ?_
      rintro e V1125 ⟨v3, rfl, p3, hb⟩
      replace p1 := p1.next hb
      replace p2 := p2.next hb
      replace tX := tX.next hb
      clear p2
      refine hK.out _ _ (below_next hHeld hb) (fun hNew => ?_)
      clear hK K hHeld
      have hHeld := hNew
      clear hNew
      (try simp only [Act.put, List.setIfInBounds_toArray, List.set_cons_zero, List.set_cons_succ])
      clear hb
      refine wpAnyH_ready (rs := [10]) (by kernel_rfl) (by simp) ?_
      refine AllReadyH.cons (o := ?o1126) ?ho1126 (fun K hK => ?st1126) AllReadyH.nil
      case ho1126 => (simp only [List.getElem?_toArray, List.getElem?_cons_succ, List.getElem?_cons_zero]; rfl)
      go_simp
      (try go_at_call 30)
      refine (refIntMul_any _ _ (ya - yc) (xb - xc) _ p1 p3 (Nat.le_trans (len_sub Lya.out Lyc.out) (by omega)) (Nat.le_trans (len_sub Lxb.out Lxc.out) (by omega))).mono ?_
      rintro e V1127 ⟨v4, rfl, p4, hb⟩
      replace p1 := p1.next hb
      replace p3 := p3.next hb
      replace tX := tX.next hb
      clear p1 p3
      obtain ⟨q4, m4, c4, rfl⟩ := p4.parts
      refine hK.out _ _ (below_next hHeld hb) (fun hNew => ?_)
      clear hK K hHeld
      have hHeld := hNew
      clear hNew
      (try simp only [Act.put, List.setIfInBounds_toArray, List.set_cons_zero, List.set_cons_succ])
      clear hb
      refine wpAnyH_ready (rs := [12]) (by kernel_rfl) (by simp) ?_
      refine AllReadyH.cons (o := ?o1128) ?ho1128 (fun K hK => ?st1128) AllReadyH.nil
      case ho1128 => (simp only [List.getElem?_toArray, List.getElem?_cons_succ, List.getElem?_cons_zero]; rfl)
      have x0 := tX.c0; have x1 := tX.c1; have x2 := tX.f0; have x3 := tX.f1
      go_simp
      refine hK.out _ _ (ks (ks hHeld hgX) hgX) (fun hNew => ?_)
      clear hK K hHeld x0 x1 x2 x3
      have hHeld := hNew
      clear hNew
      (try simp only [Act.put, List.setIfInBounds_toArray, List.set_cons_zero, List.set_cons_succ])
      refine wpAnyH_done (by kernel_rfl) ?_ _
      go_wp2_with fail
      go_meet
      exact Lib.hid ⟨_, _, _, _, rfl, tX.puts, p4.put tX, hHeld⟩
  obtain ⟨gpR, qpR, mpR, cpR, rfl, tR, pR, hbX⟩ := hcut.out
  clear hcut
  replace pcx := pcx.next hbX
  replace pcy := pcy.next hbX
  replace pL := pL.next hbX
  replace tA := tA.next hbX
  replace tB := tB.next hbX
  replace tU := tU.next hbX
  replace tV := tV.next hbX
  replace tL := tL.next hbX
  replace hW := below_next hW hbX
  clear hbX
  have tA0 := tA.c0; have tA1 := tA.c1
  have tB0 := tB.c0; have tB1 := tB.c1
  have tU0 := tU.c0; have tU1 := tU.c1
  have tV0 := tV.c0; have tV1 := tV.c1
  have tL0 := tL.c0; have tL1 := tL.c1
  have tR0 := tR.c0; have tR1 := tR.c1
  go_wp2_with fail
  refine (refIntCmp_any _ _ ((xa - xc) * (yb - yc)) ((ya - yc) * (xb - xc)) _ pL pR (Nat.le_trans (len_mul (len_sub Lxa.out Lxc.out) (len_sub Lyb.out Lyc.out)) (by omega)) (Nat.le_trans (len_mul (len_sub Lya.out Lyc.out) (len_sub Lxb.out Lxc.out)) (by omega))).mono ?_
  rintro e W5 ⟨rfl, hb⟩
  clear tA0 tA1 tB0 tB1 tU0 tU1 tV0 tV1 tL0 tL1 tR0 tR1
  replace pcx := pcx.next hb
  replace pcy := pcy.next hb
  replace pL := pL.next hb
  replace pR := pR.next hb
  replace tA := tA.next hb
  replace tB := tB.next hb
  replace tU := tU.next hb
  replace tV := tV.next hb
  replace tL := tL.next hb
  replace tR := tR.next hb
  replace hW := below_next hW hb
  clear hb
  have tA0 := tA.c0; have tA1 := tA.c1
  have tB0 := tB.c0; have tB1 := tB.c1
  have tU0 := tU.c0; have tU1 := tU.c1
  have tV0 := tV.c0; have tV1 := tV.c1
  have tL0 := tL.c0; have tL1 := tL.c1
  have tR0 := tR.c0; have tR1 := tR.c1
  go_wp2
  go_ret
  exact ⟨rfl, hW⟩
end Go.Proofs.Ytknkakkdhihngaa
