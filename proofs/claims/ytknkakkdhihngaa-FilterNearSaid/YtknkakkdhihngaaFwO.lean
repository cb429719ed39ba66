/- The document's exact square of how far two good points lie apart. -/
import Derived.Test.YtknkakkdhihngaaFwM
import Derived.Deep.DeepCutAuto
import Derived.Deep.RegionHeld3
namespace Go.Proofs.Ytknkakkdhihngaa
open Go.RowKit

set_option maxHeartbeats 16000000 in
set_option maxRecDepth 100000 in
theorem refSquare_any (ax ay bx b2 : Nat) (h1 : ax < 18446744073709551616) (h2 : ay < 18446744073709551616) (h3 : bx < 18446744073709551616) (h4 : b2 < 18446744073709551616)
    (xa ya xb yb : Int) (e1 : fZ ax = xa) (e2 : fZ ay = ya) (e3 : fZ bx = xb) (e4 : fZ b2 = yb) (w : World) :
    Calls Try.prog 14 #[.agg #[.int .u64 (ax : Int), .int .u64 (ay : Int)], .agg #[.int .u64 (bx : Int), .int .u64 (b2 : Int)]] w (GivesNum w ((xa - xb) * (xa - xb) + (ya - yb) * (ya - yb))) := by
  have Hax := Lib.hid (refNum_any ax h1)
  have Lxa := Lib.hid (fZ_len ax)
  rw [e1] at Hax Lxa
  have Hay := Lib.hid (refNum_any ay h2)
  have Lya := Lib.hid (fZ_len ay)
  rw [e2] at Hay Lya
  have Hbx := Lib.hid (refNum_any bx h3)
  have Lxb := Lib.hid (fZ_len bx)
  rw [e3] at Hbx Lxb
  have Hb2 := Lib.hid (refNum_any b2 h4)
  have Lyb := Lib.hid (fZ_len b2)
  rw [e4] at Hb2 Lyb
  clear e1 e2 e3 e4 h1 h2 h3 h4
  obtain ⟨W0, hW0, hW, tA, tB, tR⟩ := enter3 w (.int .u64 (ax : Int)) (.int .u64 (ay : Int)) 24 (.int .u64 (bx : Int)) (.int .u64 (b2 : Int)) 24 (.bool false) (.slice none 0 0) 36
  have hCC : w.heap.size ≤ w.heap.size + 1 + 1 := by omega
  replace tR : Two W0 (w.heap.size + 1 + 1) (.bool false) (.slice none 0 0) 36 := tR
  have tA0 := tA.c0; have tA1 := tA.c1; have tB0 := tB.c0; have tB1 := tB.c1; have tR0 := tR.c0; have tR1 := tR.c1
  go_enter Try.func14, Try.ntmps14
  go_upto_region 1 with fail
  rw [← hW0]
  clear hW0
  clear tA0 tA1 tB0 tB1 tR0 tR1
  go_cut [5] (fun s5 wx => Hid (∃ (g : Nat) (q : Option Addr) (m c : Nat), s5 = .pointer (some ⟨g, 0, none⟩) ∧ Two wx g (.bool (decide (xa - xb < 0))) (.slice q m c) 36 ∧ NumAt wx (.agg #[.bool (decide (xa - xb < 0)), .slice q m c]) (xa - xb) ∧ Below W0.heap.size W0 wx ∧ W0.heap.size ≤ g))
  case first =>
    refine wp_region_held_drew (S := fun w' => Below W0.heap.size W0 w') (by kernel_rfl) kd0 (fun hHeld => ?_)
    refine wpAnyH_take (i := 0) (oi := ?oi1129) (v := ?v1129) ?hi1129 ?h11129 ?h21129 ?h31129 ?hQ1129 (Or.inl ⟨?hw1129, ?hy1129⟩) hHeld ?rest1129
    case hi1129 => (simp only [List.getElem?_toArray, List.getElem?_cons_zero]; rfl)
    case h11129 => kernel_rfl
    case h21129 => kernel_rfl
    case h31129 => kernel_rfl
    case hQ1129 => exact fun _ _ _ h => h
    case hw1129 => rfl
    case hy1129 => (intro w hSw; go_simp; first | done | with_reducible rfl)
    (try simp only [Act.put, List.setIfInBounds_toArray, List.set_cons_zero, List.set_cons_succ])
    refine wpAnyH_take (i := 1) (oi := ?oi1130) (v := ?v1130) ?hi1130 ?h11130 ?h21130 ?h31130 ?hQ1130 (Or.inl ⟨?hw1130, ?hy1130⟩) hHeld ?rest1130
    case hi1130 => (simp only [List.getElem?_toArray, List.getElem?_cons_succ, List.getElem?_cons_zero]; rfl)
    case h11130 => kernel_rfl
    case h21130 => kernel_rfl
    case h31130 => kernel_rfl
    case hQ1130 => exact fun _ _ _ h => h
    case hw1130 => rfl
    case hy1130 => (intro w hSw; have zA := (tA.next hSw).c0; go_simp; first | done | with_reducible rfl)
    (try simp only [Act.put, List.setIfInBounds_toArray, List.set_cons_zero, List.set_cons_succ])
    refine wpAnyH_take (i := 3) (oi := ?oi1131) (v := ?v1131) ?hi1131 ?h11131 ?h21131 ?h31131 ?hQ1131 (Or.inl ⟨?hw1131, ?hy1131⟩) hHeld ?rest1131
    case hi1131 => (simp only [List.getElem?_toArray, List.getElem?_cons_succ, List.getElem?_cons_zero]; rfl)
    case h11131 => kernel_rfl
    case h21131 => kernel_rfl
    case h31131 => kernel_rfl
    case hQ1131 => exact fun _ _ _ h => h
    case hw1131 => rfl
    case hy1131 => (intro w hSw; go_simp; first | done | with_reducible rfl)
    (try simp only [Act.put, List.setIfInBounds_toArray, List.set_cons_zero, List.set_cons_succ])
    refine wpAnyH_take (i := 4) (oi := ?oi1132) (v := ?v1132) ?hi1132 ?h11132 ?h21132 ?h31132 ?hQ1132 (Or.inl ⟨?hw1132, ?hy1132⟩) hHeld ?rest1132
    case hi1132 => (simp only [List.getElem?_toArray, List.getElem?_cons_succ, List.getElem?_cons_zero]; rfl)
    case h11132 => kernel_rfl
    case h21132 => kernel_rfl
    case h31132 => kernel_rfl
    case hQ1132 => exact fun _ _ _ h => h
    case hw1132 => rfl
    case hy1132 => (intro w hSw; have zB := (tB.next hSw).c0; go_simp; first | done | with_reducible rfl)
    (try simp only [Act.put, List.setIfInBounds_toArray, List.set_cons_zero, List.set_cons_succ])
    refine wpAnyH_ready (rs := [2, 7]) (by kernel_rfl) (by simp) ?_
    refine AllReadyH.cons (o := ?o1133) ?ho1133 (fun K hK => ?st1133) (AllReadyH.cons (o := ?o1134) ?ho1134 (fun K hK => ?st1134) AllReadyH.nil)
    case ho1133 => (simp only [List.getElem?_toArray, List.getElem?_cons_succ, List.getElem?_cons_zero]; rfl)
    case ho1134 => (simp only [List.getElem?_toArray, List.getElem?_cons_succ, List.getElem?_cons_zero]; rfl)
    case st1133 =>
      go_simp
      (try go_at_call 16)
      refine (Hax.out _).mono ?_
      rintro e V1135 ⟨v0, rfl, p0, hb⟩
      refine hK.out _ _ (below_next hHeld hb) (fun hNew => ?_)
      clear hK K hHeld
      have hHeld := hNew
      clear hNew
      (try simp only [Act.put, List.setIfInBounds_toArray, List.set_cons_zero, List.set_cons_succ])
      clear hb
      refine wpAnyH_ready (rs := [5, 7]) (by kernel_rfl) (by simp) ?_
      refine AllReadyH.cons (o := ?o1136) ?ho1136 (fun K hK => ?st1136) (AllReadyH.cons (o := ?o1137) ?ho1137 (fun K hK => ?st1137) AllReadyH.nil)
      case ho1136 => (simp only [List.getElem?_toArray, List.getElem?_cons_succ, List.getElem?_cons_zero]; rfl)
      case ho1137 => (simp only [List.getElem?_toArray, List.getElem?_cons_succ, List.getElem?_cons_zero]; rfl)
      case st1136 =>
        go_simp
        (try go_at_call 16)
        refine (Hbx.out _).mono ?_
        rintro e V1138 ⟨v2, rfl, p2, hb⟩
        replace p0 := p0.next hb
        refine hK.out _ _ (below_next hHeld hb) (fun hNew => ?_)
        clear hK K hHeld
        have hHeld := hNew
        clear hNew
        (try simp only [Act.put, List.setIfInBounds_toArray, List.set_cons_zero, List.set_cons_succ])
        clear hb
        refine wpAnyH_ready (rs := [6, 7]) (by kernel_rfl) (by simp) ?_
        refine AllReadyH.cons (o := ?o1139) ?ho1139 (fun K hK => ?st1139) (AllReadyH.cons (o := ?o1140) ?ho1140 (fun K hK => ?st1140) AllReadyH.nil)
        case ho1139 => (simp only [List.getElem?_toArray, List.getElem?_cons_succ, List.getElem?_cons_zero]; rfl)
        case ho1140 => (simp only [List.getElem?_toArray, List.getElem?_cons_succ, List.getElem?_cons_zero]; rfl)
        case st1139 =>
          go_simp
          (try go_at_call 18)
          refine (refIntSub_any _ _ xa xb _ p0 p2 (by have := Lxa.out; omega) (by have := Lxb.out; omega)).mono ?_
          rintro e V1141 ⟨v4, rfl, p4, hb⟩
          replace p0 := p0.next hb
          replace p2 := p2.next hb
          clear p0 p2
          obtain ⟨q4, m4, c4, rfl⟩ := p4.parts
          refine hK.out _ _ (below_next hHeld hb) (fun hNew => ?_)
          clear hK K hHeld
          have hHeld := hNew
          clear hNew
          (try simp only [Act.put, List.setIfInBounds_toArray, List.set_cons_zero, List.set_cons_succ])
          clear hb
          refine wpAnyH_ready (rs := [7]) (by kernel_rfl) (by simp) ?_
          refine AllReadyH.cons (o := ?o1142) ?ho1142 (fun K hK => ?st1142) AllReadyH.nil
          case ho1142 => (simp only [List.getElem?_toArray, List.getElem?_cons_succ, List.getElem?_cons_zero]; rfl)
          have hOld := hHeld
          go_simp
          refine hK.out _ _ (below_next hHeld bal) (fun hNew => ?_)
          clear hK K
          have hgX := hHeld.size
          have tX := Two.made (w := V1141) (b := V1141.heap.size) (T := 36) (.bool false) (.slice none 0 0) rfl
          clear hHeld
          have hHeld := hNew
          clear hNew
          (try simp only [Act.put, List.setIfInBounds_toArray, List.set_cons_zero, List.set_cons_succ])
          refine wpAnyH_ready (rs := [8]) (by kernel_rfl) (by simp) ?_
          refine AllReadyH.cons (o := ?o1144) ?ho1144 (fun K hK => ?st1144) AllReadyH.nil
          case ho1144 => (simp only [List.getElem?_toArray, List.getElem?_cons_succ, List.getElem?_cons_zero]; rfl)
          have x0 := tX.c0; have x1 := tX.c1; have x2 := tX.f0; have x3 := tX.f1
          go_simp
          refine hK.out _ _ (below_next hOld bal) (fun hNew => ?_)
          clear hK K hHeld x0 x1 x2 x3
          have hHeld := hNew
          clear hNew
          (try simp only [Act.put, List.setIfInBounds_toArray, List.set_cons_zero, List.set_cons_succ])
          refine wpAnyH_done (by kernel_rfl) ?_ _
          go_wp2_with fail
          go_meet
          exact Lib.hid ⟨_, _, _, _, rfl, Two.new _ _ _ _, p4.next bal, below_next hOld bal, hgX⟩
        case st1140 =>
          go_simp
          refine hK.out _ _ (below_next hHeld bal) (fun hNew => ?_)
          clear hK K
          have hgX := hHeld.size
          have tX := Two.made (w := V1138) (b := V1138.heap.size) (T := 36) (.bool false) (.slice none 0 0) rfl
          clear hHeld
          have hHeld := hNew
          clear hNew
          (try simp only [Act.put, List.setIfInBounds_toArray, List.set_cons_zero, List.set_cons_succ])
          have hbA : Below V1138.heap.size V1138 (V1138.alloc (.cells #[.bool false, .slice none 0 0] 36)) := bal
          replace p0 := p0.next hbA
          replace p2 := p2.next hbA
          clear hbA
          refine wpAnyH_ready (rs := [6]) (by kernel_rfl) (by simp) ?_
          refine AllReadyH.cons (o := ?o1146) ?ho1146 (fun K hK => ?st1146) AllReadyH.nil
          case ho1146 => (simp only [List.getElem?_toArray, List.getElem?_cons_succ, List.getElem?_cons_zero]; rfl)
          go_simp
          (try go_at_call 18)
          refine (refIntSub_any _ _ xa xb _ p0 p2 (by have := Lxa.out; omega) (by have := Lxb.out; omega)).mono ?_
          rintro e V1147 ⟨v4, rfl, p4, hb⟩
          replace p0 := p0.next hb
          replace p2 := p2.next hb
          replace tX := tX.next hb
          clear p0 p2
          obtain ⟨q4, m4, c4, rfl⟩ := p4.parts
          refine hK.out _ _ (below_next hHeld hb) (fun hNew => ?_)
          clear hK K hHeld
          have hHeld := hNew
          clear hNew
          (try simp only [Act.put, List.setIfInBounds_toArray, List.set_cons_zero, List.set_cons_succ])
          clear hb
          refine wpAnyH_ready (rs := [8]) (by kernel_rfl) (by simp) ?_
          refine AllReadyH.cons (o := ?o1148) ?ho1148 (fun K hK => ?st1148) AllReadyH.nil
          case ho1148 => (simp only [List.getElem?_toArray, List.getElem?_cons_succ, List.getElem?_cons_zero]; rfl)
          have x0 := tX.c0; have x1 := tX.c1; have x2 := tX.f0; have x3 := tX.f1
          go_simp
          refine hK.out _ _ (ks (ks hHeld hgX) hgX) (fun hNew => ?_)
          clear hK K hHeld x0 x1 x2 x3
          have hHeld := hNew
          clear hNew
          (try simp only [Act.put, List.setIfInBounds_toArray, List.set_cons_zero, List.set_cons_succ])
          refine wpAnyH_done (by kernel_rfl) ?_ _
          go_wp2_with fail
          go_meet
          exact Lib.hid ⟨_, _, _, _, rfl, tX.puts, p4.put tX, hHeld, hgX⟩
      case st1137 =>
        go_simp
        refine hK.out _ _ (below_next hHeld bal) (fun hNew => ?_)
        clear hK K
        have hgX := hHeld.size
        have tX := Two.made (w := V1135) (b := V1135.heap.size) (T := 36) (.bool false) (.slice none 0 0) rfl
        clear hHeld
        have hHeld := hNew
        clear hNew
        (try simp only [Act.put, List.setIfInBounds_toArray, List.set_cons_zero, List.set_cons_succ])
        have hbA : Below V1135.heap.size V1135 (V1135.alloc (.cells #[.bool false, .slice none 0 0] 36)) := bal
        replace p0 := p0.next hbA
        clear hbA
        refine wpAnyH_ready (rs := [5]) (by kernel_rfl) (by simp) ?_
        refine AllReadyH.cons (o := ?o1150) ?ho1150 (fun K hK => ?st1150) AllReadyH.nil
        case ho1150 => (simp only [List.getElem?_toArray, List.getElem?_cons_succ, List.getElem?_cons_zero]; rfl)
        go_simp
        (try go_at_call 16)
        refine (Hbx.out _).mono ?_
        rintro e V1151 ⟨v2, rfl, p2, hb⟩
        replace p0 := p0.next hb
        replace tX := tX.next hb
        refine hK.out _ _ (below_next hHeld hb) (fun hNew => ?_)
        clear hK K hHeld
        have hHeld := hNew
        clear hNew
        (try simp only [Act.put, List.setIfInBounds_toArray, List.set_cons_zero, List.set_cons_succ])
        clear hb
        refine wpAnyH_ready (rs := [6]) (by kernel_rfl) (by simp) ?_
        refine AllReadyH.cons (o := ?o1152) ?ho1152 (fun K hK => ?st1152) AllReadyH.nil
        case ho1152 => (simp only [List.getElem?_toArray, List.getElem?_cons_succ, List.getElem?_cons_zero]; rfl)
        go_simp
        (try go_at_call 18)
        refine (refIntSub_any _ _ xa xb _ p0 p2 (by have := Lxa.out; omega) (by have := Lxb.out; omega)).mono ?_
        rintro e V1153 ⟨v4, rfl, p4, hb⟩
        replace p0 := p0.next hb
        replace p2 := p2.next hb
        replace tX := tX.next hb
        clear p0 p2
        obtain ⟨q4, m4, c4, rfl⟩ := p4.parts
        refine hK.out _ _ (below_next hHeld hb) (fun hNew => ?_)
        clear hK K hHeld
        have hHeld := hNew
        clear hNew
        (try simp only [Act.put, List.setIfInBounds_toArray, List.set_cons_zero, List.set_cons_succ])
        clear hb
        refine wpAnyH_ready (rs := [8]) (by kernel_rfl) (by simp) ?_
        refine AllReadyH.cons (o := ?o1154) ?ho1154 (fun K hK => ?st1154) AllReadyH.nil
        case ho1154 => (simp only [List.getElem?_toArray, List.getElem?_cons_succ, List.getElem?_cons_zero]; rfl)
        have x0 := tX.c0; have x1 := tX.c1; have x2 := tX.f0; have x3 := tX.f1
        go_simp
        refine hK.out _ _ (ks (ks hHeld hgX) hgX) (fun hNew => ?_)
        clear hK K hHeld x0 x1 x2 x3
        have hHeld := hNew
        clear hNew
        (try simp only [Act.put, List.setIfInBounds_toArray, List.set_cons_zero, List.set_cons_succ])
        refine wpAnyH_done (by kernel_rfl) ?_ _
        go_wp2_with fail
        go_meet
        exact Lib.hid ⟨_, _, _, _, rfl, tX.puts, p4.put tX, hHeld, hgX⟩
    case st1134 =>
      go_simp
      refine hK.out _ _ (below_next hHeld bal) (fun hNew => ?_)
      clear hK K
      have hgX := hHeld.size
      have tX := Two.made (w := W0.drew) (b := W0.heap.size) (T := 36) (.bool false) (.slice none 0 0) rfl
      clear hHeld
      have hHeld := hNew
      clear hNew
      (try simp only [Act.put, List.setIfInBounds_toArray, List.set_cons_zero, List.set_cons_succ])
      refine wpAnyH_ready (rs := [2]) (by kernel_rfl) (by simp) ?_
      refine AllReadyH.cons (o := ?o1156) ?ho1156 (fun K hK => ?st1156) AllReadyH.nil
      case ho1156 => (simp only [List.getElem?_toArray, List.getElem?_cons_succ, List.getElem?_cons_zero]; rfl)
      go_simp
      (try go_at_call 16)
      refine (Hax.out _).mono ?_
      rintro e V1157 ⟨v0, rfl, p0, hb⟩
      replace tX := tX.next hb
      refine hK.out _ _ (below_next hHeld hb) (fun hNew => ?_)
      clear hK K hHeld
      have hHeld := hNew
      clear hNew
      (try simp only [Act.put, List.setIfInBounds_toArray, List.set_cons_zero, List.set_cons_succ])
      clear hb
      refine wpAnyH_ready (rs := [5]) (by kernel_rfl) (by simp) ?_
      refine AllReadyH.cons (o := ?o1158) ?ho1158 (fun K hK => ?st1158) AllReadyH.nil
      case ho1158 => (simp only [List.getElem?_toArray, List.getElem?_cons_succ, List.getElem?_cons_zero]; rfl)
      go_simp
      (try go_at_call 16)
      refine (Hbx.out _).mono ?_
      rintro e V1159 ⟨v2, rfl, p2, hb⟩
      replace p0 := p0.next hb
      replace tX := tX.next hb
      refine hK.out _ _ (below_next hHeld hb) (fun hNew => ?_)
      clear hK K hHeld
      have hHeld := hNew
      clear hNew
      (try simp only [Act.put, List.setIfInBounds_toArray, List.set_cons_zero, List.set_cons_succ])
      clear hb
      refine wpAnyH_ready (rs := [6]) (by kernel_rfl) (by simp) ?_
      refine AllReadyH.cons (o := ?o1160) ?ho1160 (fun K hK => ?st1160) AllReadyH.nil
      case ho1160 => (simp only [List.getElem?_toArray, List.getElem?_cons_succ, List.getElem?_cons_zero]; rfl)
      go_simp
      (try go_at_call 18)
      refine (refIntSub_any _ _ xa xb _ p0 p2 (by have := Lxa.out; omega) (by have := Lxb.out; omega)).mono ?_
      rintro e V1161 ⟨v4, rfl, p4, hb⟩
      replace p0 := p0.next hb
      replace p2 := p2.next hb
      replace tX := tX.next hb
      clear p0 p2
      obtain ⟨q4, m4, c4, rfl⟩ := p4.parts
      refine hK.out _ _ (below_next hHeld hb) (fun hNew => ?_)
      clear hK K hHeld
      have hHeld := hNew
      clear hNew
      (try simp only [Act.put, List.setIfInBounds_toArray, List.set_cons_zero, List.set_cons_succ])
      clear hb
      refine wpAnyH_ready (rs := [8]) (by kernel_rfl) (by simp) ?_
      refine AllReadyH.cons (o := ?o1162) ?ho1162 (fun K hK => ?st1162) AllReadyH.nil
      case ho1162 => (simp only [List.getElem?_toArray, List.getElem?_cons_succ, List.getElem?_cons_zero]; rfl)
      have x0 := tX.c0; have x1 := tX.c1; have x2 := tX.f0; have x3 := tX.f1
      go_simp
      refine hK.out _ _ (ks (ks hHeld hgX) hgX) (fun hNew => ?_)
      clear hK K hHeld x0 x1 x2 x3
      have hHeld := hNew
      clear hNew
      (try simp only [Act.put, List.setIfInBounds_toArray, List.set_cons_zero, List.set_cons_succ])
      refine wpAnyH_done (by kernel_rfl) ?_ _
      go_wp2_with fail
      go_meet
      exact Lib.hid ⟨_, _, _, _, rfl, tX.puts, p4.put tX, hHeld, hgX⟩
  obtain ⟨gpX, qpX, mpX, cpX, rfl, tX1, pX, hbX, lpX⟩ := hcut.out
  clear hcut
  have lrpX := tR.lt
  replace tA := tA.next hbX
  replace tB := tB.next hbX
  replace tR := tR.next hbX
  replace hW := below_next hW hbX
  clear hbX
  have npX : w.heap.size + 1 + 1 ≠ gpX := by omega
  clear lpX lrpX
  go_upto_region 2 with fail
  go_cut [6] (fun s6 wx => Hid (∃ (g : Nat) (q : Option Addr) (m c : Nat), s6 = .pointer (some ⟨g, 0, none⟩) ∧ Two wx g (.bool (decide (ya - yb < 0))) (.slice q m c) 36 ∧ NumAt wx (.agg #[.bool (decide (ya - yb < 0)), .slice q m c]) (ya - yb) ∧ Below wc.heap.size wc wx ∧ wc.heap.size ≤ g))
  case first =>
    refine wp_region_held_drew (S := fun w' => Below wc.heap.size wc w') (by kernel_rfl) kd0 (fun hHeld => ?_)
    refine wpAnyH_take (i := 0) (oi := ?oi1163) (v := ?v1163) ?hi1163 ?h11163 ?h21163 ?h31163 ?hQ1163 (Or.inl ⟨?hw1163, ?hy1163⟩) hHeld ?rest1163
    case hi1163 => (simp only [List.getElem?_toArray, List.getElem?_cons_zero]; rfl)
    case h11163 => kernel_rfl
    case h21163 => kernel_rfl
    case h31163 => kernel_rfl
    case hQ1163 => exact fun _ _ _ h => h
    case hw1163 => rfl
    case hy1163 => (intro w hSw; go_simp; first | done | with_reducible rfl)
    (try simp only [Act.put, List.setIfInBounds_toArray, List.set_cons_zero, List.set_cons_succ])
    refine wpAnyH_take (i := 1) (oi := ?oi1164) (v := ?v1164) ?hi1164 ?h11164 ?h21164 ?h31164 ?hQ1164 (Or.inl ⟨?hw1164, ?hy1164⟩) hHeld ?rest1164
    case hi1164 => (simp only [List.getElem?_toArray, List.getElem?_cons_succ, List.getElem?_cons_zero]; rfl)
    case h11164 => kernel_rfl
    case h21164 => kernel_rfl
    case h31164 => kernel_rfl
    case hQ1164 => exact fun _ _ _ h => h
    case hw1164 => rfl
    case hy1164 => (intro w hSw; have zA := (tA.next hSw).c1; go_simp; first | done | with_reducible rfl)
    (try simp only [Act.put, List.setIfInBounds_toArray, List.set_cons_zero, List.set_cons_succ])
    refine wpAnyH_take (i := 3) (oi := ?oi1165) (v := ?v1165) ?hi1165 ?h11165 ?h21165 ?h31165 ?hQ1165 (Or.inl ⟨?hw1165, ?hy1165⟩) hHeld ?rest1165
    case hi1165 => (simp only [List.getElem?_toArray, List.getElem?_cons_succ, List.getElem?_cons_zero]; rfl)
    case h11165 => kernel_rfl
    case h21165 => kernel_rfl
    case h31165 => kernel_rfl
    case hQ1165 => exact fun _ _ _ h => h
    case hw1165 => rfl
    case hy1165 => (intro w hSw; go_simp; first | done | with_reducible rfl)
    (try simp only [Act.put, List.setIfInBounds_toArray, List.set_cons_zero, List.set_cons_succ])
    refine wpAnyH_take (i := 4) (oi := ?oi1166) (v := ?v1166) ?hi1166 ?h11166 ?h21166 ?h31166 ?hQ1166 (Or.inl ⟨?hw1166, ?hy1166⟩) hHeld ?rest1166
    case hi1166 => (simp only [List.getElem?_toArray, List.getElem?_cons_succ, List.getElem?_cons_zero]; rfl)
    case h11166 => kernel_rfl
    case h21166 => kernel_rfl
    case h31166 => kernel_rfl
    case hQ1166 => exact fun _ _ _ h => h
    case hw1166 => rfl
    case hy1166 => (intro w hSw; have zB := (tB.next hSw).c1; go_simp; first | done | with_reducible rfl)
    (try simp only [Act.put, List.setIfInBounds_toArray, List.set_cons_zero, List.set_cons_succ])
    refine wpAnyH_ready (rs := [2, 7]) (by kernel_rfl) (by simp) ?_
    refine AllReadyH.cons (o := ?o1167) ?ho1167 (fun K hK => ?st1167) (AllReadyH.cons (o := ?o1168) ?ho1168 (fun K hK => ?st1168) AllReadyH.nil)
    case ho1167 => (simp only [List.getElem?_toArray, List.getElem?_cons_succ, List.getElem?_cons_zero]; rfl)
    case ho1168 => (simp only [List.getElem?_toArray, List.getElem?_cons_succ, List.getElem?_cons_zero]; rfl)
    case st1167 =>
      go_simp
      (try go_at_call 16)
      refine (Hay.out _).mono ?_
      rintro e V1169 ⟨v0, rfl, p0, hb⟩
      refine hK.out _ _ (below_next hHeld hb) (fun hNew => ?_)
      clear hK K hHeld
      have hHeld := hNew
      clear hNew
      (try simp only [Act.put, List.setIfInBounds_toArray, List.set_cons_zero, List.set_cons_succ])
      clear hb
      refine wpAnyH_ready (rs := [5, 7]) (by kernel_rfl) (by simp) ?_
      refine AllReadyH.cons (o := ?o1170) ?ho1170 (fun K hK => ?st1170) (AllReadyH.cons (o := ?o1171) ?ho1171 (fun K hK => ?st1171) AllReadyH.nil)
      case ho1170 => (simp only [List.getElem?_toArray, List.getElem?_cons_succ, List.getElem?_cons_zero]; rfl)
      case ho1171 => (simp only [List.getElem?_toArray, List.getElem?_cons_succ, List.getElem?_cons_zero]; rfl)
      case st1170 =>
        go_simp
        (try go_at_call 16)
        refine (Hb2.out _).mono ?_
        rintro e V1172 ⟨v2, rfl, p2, hb⟩
        replace p0 := p0.next hb
        refine hK.out _ _ (below_next hHeld hb) (fun hNew => ?_)
        clear hK K hHeld
        have hHeld := hNew
        clear hNew
        (try simp only [Act.put, List.setIfInBounds_toArray, List.set_cons_zero, List.set_cons_succ])
        clear hb
        refine wpAnyH_ready (rs := [6, 7]) (by kernel_rfl) (by simp) ?_
        refine AllReadyH.cons (o := ?o1173) ?ho1173 (fun K hK => ?st1173) (AllReadyH.cons (o := ?o1174) ?ho1174 (fun K hK => ?st1174) AllReadyH.nil)
        case ho1173 => (simp only [List.getElem?_toArray, List.getElem?_cons_succ, List.getElem?_cons_zero]; rfl)
        case ho1174 => (simp only [List.getElem?_toArray, List.getElem?_cons_succ, List.getElem?_cons_zero]; rfl)
        case st1173 =>
          go_simp
          (try go_at_call 18)
          refine (refIntSub_any _ _ ya yb _ p0 p2 (by have := Lya.out; omega) (by have := Lyb.out; omega)).mono ?_
          rintro e V1175 ⟨v4, rfl, p4, hb⟩
          replace p0 := p0.next hb
          replace p2 := p2.next hb
          clear p0 p2
          obtain ⟨q4, m4, c4, rfl⟩ := p4.parts
          refine hK.out _ _ (below_next hHeld hb) (fun hNew => ?_)
          clear hK K hHeld
          have hHeld := hNew
          clear hNew
          (try simp only [Act.put, List.setIfInBounds_toArray, List.set_cons_zero, List.set_cons_succ])
          clear hb
          refine wpAnyH_ready (rs := [7]) (by kernel_rfl) (by simp) ?_
          refine AllReadyH.cons (o := ?o1176) ?ho1176 (fun K hK => ?st1176) AllReadyH.nil
          case ho1176 => (simp only [List.getElem?_toArray, List.getElem?_cons_succ, List.getElem?_cons_zero]; rfl)
          have hOld := hHeld
          go_simp
          refine hK.out _ _ (below_next hHeld bal) (fun hNew => ?_)
          clear hK K
          have hgX := hHeld.size
          have tX := Two.made (w := V1175) (b := V1175.heap.size) (T := 36) (.bool false) (.slice none 0 0) rfl
          clear hHeld
          have hHeld := hNew
          clear hNew
          (try simp only [Act.put, List.setIfInBounds_toArray, List.set_cons_zero, List.set_cons_succ])
          refine wpAnyH_ready (rs := [8]) (by kernel_rfl) (by simp) ?_
          refine AllReadyH.cons (o := ?o1178) ?ho1178 (fun K hK => ?st1178) AllReadyH.nil
          case ho1178 => (simp only [List.getElem?_toArray, List.getElem?_cons_succ, List.getElem?_cons_zero]; rfl)
          have x0 := tX.c0; have x1 := tX.c1; have x2 := tX.f0; have x3 := tX.f1
          go_simp
          refine hK.out _ _ (below_next hOld bal) (fun hNew => ?_)
          clear hK K hHeld x0 x1 x2 x3
          have hHeld := hNew
          clear hNew
          (try simp only [Act.put, List.setIfInBounds_toArray, List.set_cons_zero, List.set_cons_succ])
          refine wpAnyH_done (by kernel_rfl) ?_ _
          go_wp2_with fail
          go_meet
          exact Lib.hid ⟨_, _, _, _, rfl, Two.new _ _ _ _, p4.next bal, below_next hOld bal, hgX⟩
        case st1174 =>
          go_simp
          refine hK.out _ _ (below_next hHeld bal) (fun hNew => ?_)
          clear hK K
          have hgX := hHeld.size
          have tX := Two.made (w := V1172) (b := V1172.heap.size) (T := 36) (.bool false) (.slice none 0 0) rfl
          clear hHeld
          have hHeld := hNew
          clear hNew
          (try simp only [Act.put, List.setIfInBounds_toArray, List.set_cons_zero, List.set_cons_succ])
          have hbA : Below V1172.heap.size V1172 (V1172.alloc (.cells #[.bool false, .slice none 0 0] 36)) := bal
          replace p0 := p0.next hbA
          replace p2 := p2.next hbA
          clear hbA
          refine wpAnyH_ready (rs := [6]) (by kernel_rfl) (by simp) ?_
          refine AllReadyH.cons (o := ?o1180) ?ho1180 (fun K hK => ?st1180) AllReadyH.nil
          case ho1180 => (simp only [List.getElem?_toArray, List.getElem?_cons_succ, List.getElem?_cons_zero]; rfl)
          go_simp
          (try go_at_call 18)
          refine (refIntSub_any _ _ ya yb _ p0 p2 (by have := Lya.out; omega) (by have := Lyb.out; omega)).mono ?_
          rintro e V1181 ⟨v4, rfl, p4, hb⟩
          replace p0 := p0.next hb
          replace p2 := p2.next hb
          replace tX := tX.next hb
          clear p0 p2
          obtain ⟨q4, m4, c4, rfl⟩ := p4.parts
          refine hK.out _ _ (below_next hHeld hb) (fun hNew => ?_)
          clear hK K hHeld
          have hHeld := hNew
          clear hNew
          (try simp only [Act.put, List.setIfInBounds_toArray, List.set_cons_zero, List.set_cons_succ])
          clear hb
          refine wpAnyH_ready (rs := [8]) (by kernel_rfl) (by simp) ?_
          refine AllReadyH.cons (o := ?o1182) ?ho1182 (fun K hK => ?st1182) AllReadyH.nil
          case ho1182 => (simp only [List.getElem?_toArray, List.getElem?_cons_succ, List.getElem?_cons_zero]; rfl)
          have x0 := tX.c0; have x1 := tX.c1; have x2 := tX.f0; have x3 := tX.f1
          go_simp
          refine hK.out _ _ (ks (ks hHeld hgX) hgX) (fun hNew => ?_)
          clear hK K hHeld x0 x1 x2 x3
          have hHeld := hNew
          clear hNew
          (try simp only [Act.put, List.setIfInBounds_toArray, List.set_cons_zero, List.set_cons_succ])
          refine wpAnyH_done (by kernel_rfl) ?_ _
          go_wp2_with fail
          go_meet
          exact Lib.hid ⟨_, _, _, _, rfl, tX.puts, p4.put tX, hHeld, hgX⟩
      case st1171 =>
        go_simp
        refine hK.out _ _ (below_next hHeld bal) (fun hNew => ?_)
        clear hK K
        have hgX := hHeld.size
        have tX := Two.made (w := V1169) (b := V1169.heap.size) (T := 36) (.bool false) (.slice none 0 0) rfl
        clear hHeld
        have hHeld := hNew
        clear hNew
        (try simp only [Act.put, List.setIfInBounds_toArray, List.set_cons_zero, List.set_cons_succ])
        have hbA : Below V1169.heap.size V1169 (V1169.alloc (.cells #[.bool false, .slice none 0 0] 36)) := bal
        replace p0 := p0.next hbA
        clear hbA
        refine wpAnyH_ready (rs := [5]) (by kernel_rfl) (by simp) ?_
        refine AllReadyH.cons (o := ?o1184) ?ho1184 (fun K hK => ?st1184) AllReadyH.nil
        case ho1184 => (simp only [List.getElem?_toArray, List.getElem?_cons_succ, List.getElem?_cons_zero]; rfl)
        go_simp
        (try go_at_call 16)
        refine (Hb2.out _).mono ?_
        rintro e V1185 ⟨v2, rfl, p2, hb⟩
        replace p0 := p0.next hb
        replace tX := tX.next hb
        refine hK.out _ _ (below_next hHeld hb) (fun hNew => ?_)
        clear hK K hHeld
        have hHeld := hNew
        clear hNew
        (try simp only [Act.put, List.setIfInBounds_toArray, List.set_cons_zero, List.set_cons_succ])
        clear hb
        refine wpAnyH_ready (rs := [6]) (by kernel_rfl) (by simp) ?_
        refine AllReadyH.cons (o := ?o1186) ?ho1186 (fun K hK => ?st1186) AllReadyH.nil
        case ho1186 => (simp only [List.getElem?_toArray, List.getElem?_cons_succ, List.getElem?_cons_zero]; rfl)
        go_simp
        (try go_at_call 18)
        refine (refIntSub_any _ _ ya yb _ p0 p2 (by have := Lya.out; omega) (by have := Lyb.out; omega)).mono ?_
        rintro e V1187 ⟨v4, rfl, p4, hb⟩
        replace p0 := p0.next hb
        replace p2 := p2.next hb
        replace tX := tX.next hb
        clear p0 p2
        obtain ⟨q4, m4, c4, rfl⟩ := p4.parts
        refine hK.out _ _ (below_next hHeld hb) (fun hNew => ?_)
        clear hK K hHeld
        have hHeld := hNew
        clear hNew
        (try simp only [Act.put, List.setIfInBounds_toArray, List.set_cons_zero, List.set_cons_succ])
        clear hb
        refine wpAnyH_ready (rs := [8]) (by kernel_rfl) (by simp) ?_
        refine AllReadyH.cons (o := ?o1188) ?ho1188 (fun K hK => ?st1188) AllReadyH.nil
        case ho1188 => (simp only [List.getElem?_toArray, List.getElem?_cons_succ, List.getElem?_cons_zero]; rfl)
        have x0 := tX.c0; have x1 := tX.c1; have x2 := tX.f0; have x3 := tX.f1
        go_simp
        refine hK.out _ _ (ks (ks hHeld hgX) hgX) (fun hNew => ?_)
        clear hK K hHeld x0 x1 x2 x3
        have hHeld := hNew
        clear hNew
        (try simp only [Act.put, List.setIfInBounds_toArray, List.set_cons_zero, List.set_cons_succ])
        refine wpAnyH_done (by kernel_rfl) ?_ _
        go_wp2_with fail
        go_meet
        exact Lib.hid ⟨_, _, _, _, rfl, tX.puts, p4.put tX, hHeld, hgX⟩
    case st1168 =>
      go_simp
      refine hK.out _ _ (below_next hHeld bal) (fun hNew => ?_)
      clear hK K
      have hgX := hHeld.size
      have tX := Two.made (w := wc.drew) (b := wc.heap.size) (T := 36) (.bool false) (.slice none 0 0) rfl
      clear hHeld
      have hHeld := hNew
      clear hNew
      (try simp only [Act.put, List.setIfInBounds_toArray, List.set_cons_zero, List.set_cons_succ])
      refine wpAnyH_ready (rs := [2]) (by kernel_rfl) (by simp) ?_
      refine AllReadyH.cons (o := ?o1190) ?ho1190 (fun K hK => ?st1190) AllReadyH.nil
      case ho1190 => (simp only [List.getElem?_toArray, List.getElem?_cons_succ, List.getElem?_cons_zero]; rfl)
      go_simp
      (try go_at_call 16)
      refine (Hay.out _).mono ?_
      rintro e V1191 ⟨v0, rfl, p0, hb⟩
      replace tX := tX.next hb
      refine hK.out _ _ (below_next hHeld hb) (fun hNew => ?_)
      clear hK K hHeld
      have hHeld := hNew
      clear hNew
      (try simp only [Act.put, List.setIfInBounds_toArray, List.set_cons_zero, List.set_cons_succ])
      clear hb
      refine wpAnyH_ready (rs := [5]) (by kernel_rfl) (by simp) ?_
      refine AllReadyH.cons (o := ?o1192) ?ho1192 (fun K hK => ?st1192) AllReadyH.nil
      case ho1192 => (simp only [List.getElem?_toArray, List.getElem?_cons_succ, List.getElem?_cons_zero]; rfl)
      go_simp
      (try go_at_call 16)
      refine (Hb2.out _).mono ?_
      rintro e V1193 ⟨v2, rfl, p2, hb⟩
      replace p0 := p0.next hb
      replace tX := tX.next hb
      refine hK.out _ _ (below_next hHeld hb) (fun hNew => ?_)
      clear hK K hHeld
      have hHeld := hNew
      clear hNew
      (try simp only [Act.put, List.setIfInBounds_toArray, List.set_cons_zero, List.set_cons_succ])
      clear hb
      refine wpAnyH_ready (rs := [6]) (by kernel_rfl) (by simp) ?_
      refine AllReadyH.cons (o := ?o1194) ?ho1194 (fun K hK => ?st1194) AllReadyH.nil
      case ho1194 => (simp only [List.getElem?_toArray, List.getElem?_cons_succ, List.getElem?_cons_zero]; rfl)
      go_simp
      (try go_at_call 18)
      refine (refIntSub_any _ _ ya yb _ p0 p2 (by have := Lya.out; omega) (by have := Lyb.out; omega)).mono ?_
      rintro e V1195 ⟨v4, rfl, p4, hb⟩
      replace p0 := p0.next hb
      replace p2 := p2.next hb
      replace tX := tX.next hb
      clear p0 p2
      obtain ⟨q4, m4, c4, rfl⟩ := p4.parts
      refine hK.out _ _ (below_next hHeld hb) (fun hNew => ?_)
      clear hK K hHeld
      have hHeld := hNew
      clear hNew
      (try simp only [Act.put, List.setIfInBounds_toArray, List.set_cons_zero, List.set_cons_succ])
      clear hb
      refine wpAnyH_ready (rs := [8]) (by kernel_rfl) (by simp) ?_
      refine AllReadyH.cons (o := ?o1196) ?ho1196 (fun K hK => ?st1196) AllReadyH.nil
      case ho1196 => (simp only [List.getElem?_toArray, List.getElem?_cons_succ, List.getElem?_cons_zero]; rfl)
      have x0 := tX.c0; have x1 := tX.c1; have x2 := tX.f0; have x3 := tX.f1
      go_simp
      refine hK.out _ _ (ks (ks hHeld hgX) hgX) (fun hNew => ?_)
      clear hK K hHeld x0 x1 x2 x3
      have hHeld := hNew
      clear hNew
      (try simp only [Act.put, List.setIfInBounds_toArray, List.set_cons_zero, List.set_cons_succ])
      refine wpAnyH_done (by kernel_rfl) ?_ _
      go_wp2_with fail
      go_meet
      exact Lib.hid ⟨_, _, _, _, rfl, tX.puts, p4.put tX, hHeld, hgX⟩
  obtain ⟨gpY, qpY, mpY, cpY, rfl, tY1, pY, hbX, lpY⟩ := hcut.out
  clear hcut
  replace pX := pX.next hbX
  have lrpY := tR.lt
  replace tA := tA.next hbX
  replace tB := tB.next hbX
  replace tR := tR.next hbX
  replace tX1 := tX1.next hbX
  replace hW := below_next hW hbX
  clear hbX
  have npY : w.heap.size + 1 + 1 ≠ gpY := by omega
  clear lpY lrpY
  go_upto_region 3 with fail
  refine wp_region_held_drew (S := fun w' => Below w.heap.size w w' ∧ w'.cell? ⟨gpX, 0, none⟩ = some (.bool (decide (xa - xb < 0))) ∧ w'.cell? ⟨gpX, 1, none⟩ = some (.slice qpX mpX cpX) ∧ w'.cell? ⟨gpY, 0, none⟩ = some (.bool (decide (ya - yb < 0))) ∧ w'.cell? ⟨gpY, 1, none⟩ = some (.slice qpY mpY cpY)) (by kernel_rfl) ⟨kd hW, tX1.c0, tX1.c1, tY1.c0, tY1.c1⟩ (fun hHeld => ?_)
  have hd : Below wc.heap.size wc wc.drew := kd (Below.refl _ _)
  replace pX := pX.next hd
  replace pY := pY.next hd
  replace tR := tR.next hd
  clear hd tX1 tY1 hW
  refine wpAnyH_take (i := 0) (oi := ?oi1197) (v := ?v1197) ?hi1197 ?h11197 ?h21197 ?h31197 ?hQ1197 (Or.inl ⟨?hw1197, ?hy1197⟩) hHeld ?rest1197
  case hi1197 => (simp only [List.getElem?_toArray, List.getElem?_cons_zero]; rfl)
  case h11197 => kernel_rfl
  case h21197 => kernel_rfl
  case h31197 => kernel_rfl
  case hQ1197 => exact fun _ _ _ h => h
  case hw1197 => rfl
  case hy1197 => (intro w hSw; obtain ⟨_, s0, s1, s2, s3⟩ := hSw; go_simp; first | done | with_reducible rfl)
  (try simp only [Act.put, List.setIfInBounds_toArray, List.set_cons_zero, List.set_cons_succ])
  refine wpAnyH_take (i := 1) (oi := ?oi1198) (v := ?v1198) ?hi1198 ?h11198 ?h21198 ?h31198 ?hQ1198 (Or.inl ⟨?hw1198, ?hy1198⟩) hHeld ?rest1198
  case hi1198 => (simp only [List.getElem?_toArray, List.getElem?_cons_succ, List.getElem?_cons_zero]; rfl)
  case h11198 => kernel_rfl
  case h21198 => kernel_rfl
  case h31198 => kernel_rfl
  case hQ1198 => exact fun _ _ _ h => h
  case hw1198 => rfl
  case hy1198 => (intro w hSw; obtain ⟨_, s0, s1, s2, s3⟩ := hSw; go_simp; first | done | with_reducible rfl)
  (try simp only [Act.put, List.setIfInBounds_toArray, List.set_cons_zero, List.set_cons_succ])
  refine wpAnyH_take (i := 3) (oi := ?oi1199) (v := ?v1199) ?hi1199 ?h11199 ?h21199 ?h31199 ?hQ1199 (Or.inl ⟨?hw1199, ?hy1199⟩) hHeld ?rest1199
  case hi1199 => (simp only [List.getElem?_toArray, List.getElem?_cons_succ, List.getElem?_cons_zero]; rfl)
  case h11199 => kernel_rfl
  case h21199 => kernel_rfl
  case h31199 => kernel_rfl
  case hQ1199 => exact fun _ _ _ h => h
  case hw1199 => rfl
  case hy1199 => (intro w hSw; obtain ⟨_, s0, s1, s2, s3⟩ := hSw; go_simp; first | done | with_reducible rfl)
  (try simp only [Act.put, List.setIfInBounds_toArray, List.set_cons_zero, List.set_cons_succ])
  refine wpAnyH_take (i := 4) (oi := ?oi1200) (v := ?v1200) ?hi1200 ?h11200 ?h21200 ?h31200 ?hQ1200 (Or.inl ⟨?hw1200, ?hy1200⟩) hHeld ?rest1200
  case hi1200 => (simp only [List.getElem?_toArray, List.getElem?_cons_succ, List.getElem?_cons_zero]; rfl)
  case h11200 => kernel_rfl
  case h21200 => kernel_rfl
  case h31200 => kernel_rfl
  case hQ1200 => exact fun _ _ _ h => h
  case hw1200 => rfl
  case hy1200 => (intro w hSw; obtain ⟨_, s0, s1, s2, s3⟩ := hSw; go_simp; first | done | with_reducible rfl)
  (try simp only [Act.put, List.setIfInBounds_toArray, List.set_cons_zero, List.set_cons_succ])
  refine wpAnyH_ready (rs := [2]) (by kernel_rfl) (by simp) ?_
  refine AllReadyH.cons (o := ?o1201) ?ho1201 (fun K hK => ?st1201) AllReadyH.nil
  case ho1201 => (simp only [List.getElem?_toArray, List.getElem?_cons_succ, List.getElem?_cons_zero]; rfl)
  go_simp
  refine (refIntMul_any _ _ (xa - xb) (xa - xb) _ pX pX (Nat.le_trans (len_sub Lxa.out Lxb.out) (by omega)) (Nat.le_trans (len_sub Lxa.out Lxb.out) (by omega))).mono ?_
  rintro e V2 ⟨v2, rfl, p2, hb⟩
  replace pY := pY.next hb
  replace tR := tR.next hb
  clear pX
  refine hK.out _ _ ⟨below_next hHeld.1 hb, kp hb hHeld.2.1, kp hb hHeld.2.2.1, kp hb hHeld.2.2.2.1, kp hb hHeld.2.2.2.2⟩ (fun hNew => ?_)
  clear hK K hHeld
  have hHeld := hNew
  clear hNew
  (try simp only [Act.put, List.setIfInBounds_toArray, List.set_cons_zero, List.set_cons_succ])
  clear hb
  refine wpAnyH_ready (rs := [5]) (by kernel_rfl) (by simp) ?_
  refine AllReadyH.cons (o := ?o1202) ?ho1202 (fun K hK => ?st1202) AllReadyH.nil
  case ho1202 => (simp only [List.getElem?_toArray, List.getElem?_cons_succ, List.getElem?_cons_zero]; rfl)
  go_simp
  refine (refIntMul_any _ _ (ya - yb) (ya - yb) _ pY pY (Nat.le_trans (len_sub Lya.out Lyb.out) (by omega)) (Nat.le_trans (len_sub Lya.out Lyb.out) (by omega))).mono ?_
  rintro e V5 ⟨v5, rfl, p5, hb⟩
  replace p2 := p2.next hb
  replace tR := tR.next hb
  clear pY
  refine hK.out _ _ ⟨below_next hHeld.1 hb, kp hb hHeld.2.1, kp hb hHeld.2.2.1, kp hb hHeld.2.2.2.1, kp hb hHeld.2.2.2.2⟩ (fun hNew => ?_)
  clear hK K hHeld
  have hHeld := hNew
  clear hNew
  (try simp only [Act.put, List.setIfInBounds_toArray, List.set_cons_zero, List.set_cons_succ])
  clear hb
  refine wpAnyH_ready (rs := [6]) (by kernel_rfl) (by simp) ?_
  refine AllReadyH.cons (o := ?o1203) ?ho1203 (fun K hK => ?st1203) AllReadyH.nil
  case ho1203 => (simp only [List.getElem?_toArray, List.getElem?_cons_succ, List.getElem?_cons_zero]; rfl)
  go_simp
  refine (refIntAdd_any _ _ ((xa - xb) * (xa - xb)) ((ya - yb) * (ya - yb)) _ p2 p5 (Nat.le_trans (len_mul (len_sub Lxa.out Lxb.out) (len_sub Lxa.out Lxb.out)) (by omega)) (Nat.le_trans (len_mul (len_sub Lya.out Lyb.out) (len_sub Lya.out Lyb.out)) (by omega))).mono ?_
  rintro e V6 ⟨v6, rfl, p6, hb⟩
  replace tR := tR.next hb
  clear p2 p5
  obtain ⟨q6, m6, c6, rfl, hm6, hR6⟩ := p6
  refine hK.out _ _ ⟨below_next hHeld.1 hb, kp hb hHeld.2.1, kp hb hHeld.2.2.1, kp hb hHeld.2.2.2.1, kp hb hHeld.2.2.2.2⟩ (fun hNew => ?_)
  clear hK K hHeld
  have hHeld := hNew
  clear hNew
  (try simp only [Act.put, List.setIfInBounds_toArray, List.set_cons_zero, List.set_cons_succ])
  clear hb
  refine wpAnyH_ready (rs := [7]) (by kernel_rfl) (by simp) ?_
  refine AllReadyH.cons (o := ?o1204) ?ho1204 (fun K hK => ?st1204) AllReadyH.nil
  case ho1204 => (simp only [List.getElem?_toArray, List.getElem?_cons_succ, List.getElem?_cons_zero]; rfl)
  have x0 := tR.c0; have x1 := tR.c1; have x2 := tR.f0; have x3 := tR.f1
  go_simp
  refine hK.out _ _ ⟨ks (ks hHeld.1 hCC) hCC, ksc (ksc hHeld.2.1 npX) npX, ksc (ksc hHeld.2.2.1 npX) npX, ksc (ksc hHeld.2.2.2.1 npY) npY, ksc (ksc hHeld.2.2.2.2 npY) npY⟩ (fun hNew => ?_)
  clear hK K hHeld
  have hHeld := hNew
  clear hNew
  (try simp only [Act.put, List.setIfInBounds_toArray, List.set_cons_zero, List.set_cons_succ])
  refine wpAnyH_done (by kernel_rfl) ?_ _
  have hr := (tR.set0 (.bool (decide ((xa - xb) * (xa - xb) + (ya - yb) * (ya - yb) < 0)))).set1 (.slice q6 m6 c6)
  have r0 := hr.c0
  have r1 := hr.c1
  clear x0 x1 x2 x3
  go_wp2
  exact bodyPost_ret (v := .agg #[.bool (decide ((xa - xb) * (xa - xb) + (ya - yb) * (ya - yb) < 0)), .slice q6 m6 c6]) (by first | (simp [results, Try.results14, go_sem, r0, r1]; done) | simp [results, Try.results14, go_sem, r0, r1]) rfl ⟨_, rfl, NumAt.set2 hm6 hR6 tR _ _, hHeld.1⟩
end Go.Proofs.Ytknkakkdhihngaa
