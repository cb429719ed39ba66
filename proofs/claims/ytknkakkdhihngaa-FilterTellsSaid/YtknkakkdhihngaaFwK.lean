/- The document's turn and square by floats. -/
import Derived.Test.YtknkakkdhihngaaFwI
import Derived.Deep.RegionHeld3
import Derived.Deep.DeepCutAuto
namespace Go.Proofs.Ytknkakkdhihngaa
open Go.RowKit Ieee
attribute [local go_sem] run_fadd run_fsub run_fmul run_store_float run_store_func

set_option maxHeartbeats 4000000 in
theorem refFar_any (ax ay bx b2 : Nat) (h1 : ax < 18446744073709551616) (h2 : ay < 18446744073709551616) (h3 : bx < 18446744073709551616) (h4 : b2 < 18446744073709551616) (w : World) :
    Calls Try.prog 11 #[.agg #[.int .u64 (ax : Int), .int .u64 (ay : Int)], .agg #[.int .u64 (bx : Int), .int .u64 (b2 : Int)]] w fun e w' =>
      ∃ r, e = .returned (.tuple #[.float .f64 r, .bool (firmC (farC (Cls ax) (Cls ay) (Cls bx) (Cls b2)))]) ∧ FarIs (farC (Cls ax) (Cls ay) (Cls bx) (Cls b2)) r ∧ Below w.heap.size w w' := by
  obtain ⟨W0, hW0, hW, tA, tB⟩ := enter2 w (.int .u64 (ax : Int)) (.int .u64 (ay : Int)) 24 (.int .u64 (bx : Int)) (.int .u64 (b2 : Int)) 24
  have a0 := tA.c0; have a1 := tA.c1; have b0 := tB.c0; have b1 := tB.c1
  have H1 := Lib.hid h1; have H2 := Lib.hid h2; have H3 := Lib.hid h3; have H4 := Lib.hid h4
  clear h1 h2 h3 h4 tA tB
  obtain ⟨T, hT⟩ : ∃ T, T = farC (Cls ax) (Cls ay) (Cls bx) (Cls b2) := ⟨_, rfl⟩
  rw [← hT]
  have HT := Lib.hid hT
  clear hT
  go_enter Try.func11, Try.ntmps11
  go_upto_region 1 with fail
  rw [← hW0]
  clear hW0
  refine wp_region_held_drew (S := fun w' => ∃ n, w' = W0.drewN n) (by kernel_rfl) ⟨1, rfl⟩ (fun hHeld => ?_)
  refine wpAnyH_take (i := 0) (oi := ?oi1) (v := ?v1) ?hi1 ?h11 ?h21 ?h31 ?hQ1 (Or.inl ⟨?hw1, ?hy1⟩) (by assumption) ?rest1
  case hi1 => (simp only [List.getElem?_toArray, List.getElem?_cons_zero]; rfl)
  case h11 => kernel_rfl
  case h21 => kernel_rfl
  case h31 => kernel_rfl
  case hQ1 => exact fun _ _ _ h => h
  case hw1 => rfl
  case hy1 => (intro w hSw; obtain ⟨n, rfl⟩ := hSw; go_simp; first | done | with_reducible rfl)
  (try simp only [Act.put, List.setIfInBounds_toArray, List.set_cons_zero, List.set_cons_succ])
  refine wpAnyH_take (i := 1) (oi := ?oi2) (v := ?v2) ?hi2 ?h12 ?h22 ?h32 ?hQ2 (Or.inl ⟨?hw2, ?hy2⟩) (by assumption) ?rest2
  case hi2 => (simp only [List.getElem?_toArray, List.getElem?_cons_succ, List.getElem?_cons_zero]; rfl)
  case h12 => kernel_rfl
  case h22 => kernel_rfl
  case h32 => kernel_rfl
  case hQ2 => exact fun _ _ _ h => h
  case hw2 => rfl
  case hy2 => (intro w hSw; obtain ⟨n, rfl⟩ := hSw; go_simp; first | done | with_reducible rfl)
  (try simp only [Act.put, List.setIfInBounds_toArray, List.set_cons_zero, List.set_cons_succ])
  refine wpAnyH_take (i := 3) (oi := ?oi3) (v := ?v3) ?hi3 ?h13 ?h23 ?h33 ?hQ3 (Or.inl ⟨?hw3, ?hy3⟩) (by assumption) ?rest3
  case hi3 => (simp only [List.getElem?_toArray, List.getElem?_cons_succ, List.getElem?_cons_zero]; rfl)
  case h13 => kernel_rfl
  case h23 => kernel_rfl
  case h33 => kernel_rfl
  case hQ3 => exact fun _ _ _ h => h
  case hw3 => rfl
  case hy3 => (intro w hSw; obtain ⟨n, rfl⟩ := hSw; go_simp; first | done | with_reducible rfl)
  (try simp only [Act.put, List.setIfInBounds_toArray, List.set_cons_zero, List.set_cons_succ])
  refine wpAnyH_take (i := 4) (oi := ?oi4) (v := ?v4) ?hi4 ?h14 ?h24 ?h34 ?hQ4 (Or.inl ⟨?hw4, ?hy4⟩) (by assumption) ?rest4
  case hi4 => (simp only [List.getElem?_toArray, List.getElem?_cons_succ, List.getElem?_cons_zero]; rfl)
  case h14 => kernel_rfl
  case h24 => kernel_rfl
  case h34 => kernel_rfl
  case hQ4 => exact fun _ _ _ h => h
  case hw4 => rfl
  case hy4 => (intro w hSw; obtain ⟨n, rfl⟩ := hSw; go_simp; first | done | with_reducible rfl)
  (try simp only [Act.put, List.setIfInBounds_toArray, List.set_cons_zero, List.set_cons_succ])
  refine wpAnyH_ready (rs := [2]) (by kernel_rfl) (by simp) ?_
  refine AllReadyH.cons (o := ?o5) ?ho5 (fun K hK => ?st5) AllReadyH.nil
  case ho5 => (simp only [List.getElem?_toArray, List.getElem?_cons_succ, List.getElem?_cons_zero]; rfl)
  go_simp
  refine (refFloat_any _ _).mono ?_
  rintro e w' ⟨rfl, rfl⟩
  refine hK.out _ _ hHeld (fun hHeld => ?_)
  clear hK K
  (try simp only [Act.put, List.setIfInBounds_toArray, List.set_cons_zero, List.set_cons_succ])
  refine wpAnyH_ready (rs := [5]) (by kernel_rfl) (by simp) ?_
  refine AllReadyH.cons (o := ?o6) ?ho6 (fun K hK => ?st6) AllReadyH.nil
  case ho6 => (simp only [List.getElem?_toArray, List.getElem?_cons_succ, List.getElem?_cons_zero]; rfl)
  go_simp
  refine (refFloat_any _ _).mono ?_
  rintro e w' ⟨rfl, rfl⟩
  refine hK.out _ _ hHeld (fun hHeld => ?_)
  clear hK K
  (try simp only [Act.put, List.setIfInBounds_toArray, List.set_cons_zero, List.set_cons_succ])
  refine wpAnyH_ready (rs := [6]) (by kernel_rfl) (by simp) ?_
  refine AllReadyH.cons (o := ?o7) ?ho7 (fun K hK => ?st7) AllReadyH.nil
  case ho7 => (simp only [List.getElem?_toArray, List.getElem?_cons_succ, List.getElem?_cons_zero]; rfl)
  go_simp
  refine hK.out _ _ ⟨_, rfl⟩ (fun hHeld => ?_)
  clear hK K
  (try simp only [Act.put, List.setIfInBounds_toArray, List.set_cons_zero, List.set_cons_succ])
  refine wpAnyH_take (i := 7) (oi := ?oi8) (v := ?v8) ?hi8 ?h18 ?h28 ?h38 ?hQ8 (Or.inl ⟨?hw8, ?hy8⟩) (by assumption) ?rest8
  case hi8 => (simp only [List.getElem?_toArray, List.getElem?_cons_succ, List.getElem?_cons_zero]; rfl)
  case h18 => kernel_rfl
  case h28 => kernel_rfl
  case h38 => kernel_rfl
  case hQ8 => exact fun _ _ _ h => h
  case hw8 => rfl
  case hy8 => (intro w hSw; obtain ⟨n, rfl⟩ := hSw; go_simp; first | done | with_reducible rfl)
  (try simp only [Act.put, List.setIfInBounds_toArray, List.set_cons_zero, List.set_cons_succ])
  refine wpAnyH_done (by kernel_rfl) ?_ _
  clear hHeld
  have hp := fans_is (f := double.sub) (Or.inr (Or.inl rfl)) H1.out H3.out W0.drew
  obtain ⟨p, ep⟩ : ∃ r, r = fans double.sub ax bx W0.drew := ⟨_, rfl⟩
  obtain ⟨W1, eW1⟩ : ∃ W, W = W0.drewN (1 + fdraw double.sub ax bx) := ⟨_, rfl⟩
  rw [← ep] at hp ⊢
  rw [← eW1]
  have Hp := Lib.hid hp
  replace hW : Below w.heap.size w W1 := by rw [eW1]; exact below_draws hW _
  replace a1 : W1.cell? ⟨w.heap.size, 1, none⟩ = some (.int .u64 (ay : Int)) := by rw [eW1]; exact a1
  replace b1 : W1.cell? ⟨w.heap.size + 1, 1, none⟩ = some (.int .u64 (b2 : Int)) := by rw [eW1]; exact b1
  clear ep eW1 hp
  clear a0 b0
  go_upto_region 2 with fail
  refine wp_region_held_drew (S := fun w' => ∃ n, w' = W1.drewN n) (by kernel_rfl) ⟨1, rfl⟩ (fun hHeld => ?_)
  refine wpAnyH_take (i := 0) (oi := ?oi9) (v := ?v9) ?hi9 ?h19 ?h29 ?h39 ?hQ9 (Or.inl ⟨?hw9, ?hy9⟩) (by assumption) ?rest9
  case hi9 => (simp only [List.getElem?_toArray, List.getElem?_cons_zero]; rfl)
  case h19 => kernel_rfl
  case h29 => kernel_rfl
  case h39 => kernel_rfl
  case hQ9 => exact fun _ _ _ h => h
  case hw9 => rfl
  case hy9 => (intro w hSw; obtain ⟨n, rfl⟩ := hSw; go_simp; first | done | with_reducible rfl)
  (try simp only [Act.put, List.setIfInBounds_toArray, List.set_cons_zero, List.set_cons_succ])
  refine wpAnyH_take (i := 1) (oi := ?oi10) (v := ?v10) ?hi10 ?h110 ?h210 ?h310 ?hQ10 (Or.inl ⟨?hw10, ?hy10⟩) (by assumption) ?rest10
  case hi10 => (simp only [List.getElem?_toArray, List.getElem?_cons_succ, List.getElem?_cons_zero]; rfl)
  case h110 => kernel_rfl
  case h210 => kernel_rfl
  case h310 => kernel_rfl
  case hQ10 => exact fun _ _ _ h => h
  case hw10 => rfl
  case hy10 => (intro w hSw; obtain ⟨n, rfl⟩ := hSw; go_simp; first | done | with_reducible rfl)
  (try simp only [Act.put, List.setIfInBounds_toArray, List.set_cons_zero, List.set_cons_succ])
  refine wpAnyH_take (i := 3) (oi := ?oi11) (v := ?v11) ?hi11 ?h111 ?h211 ?h311 ?hQ11 (Or.inl ⟨?hw11, ?hy11⟩) (by assumption) ?rest11
  case hi11 => (simp only [List.getElem?_toArray, List.getElem?_cons_succ, List.getElem?_cons_zero]; rfl)
  case h111 => kernel_rfl
  case h211 => kernel_rfl
  case h311 => kernel_rfl
  case hQ11 => exact fun _ _ _ h => h
  case hw11 => rfl
  case hy11 => (intro w hSw; obtain ⟨n, rfl⟩ := hSw; go_simp; first | done | with_reducible rfl)
  (try simp only [Act.put, List.setIfInBounds_toArray, List.set_cons_zero, List.set_cons_succ])
  refine wpAnyH_take (i := 4) (oi := ?oi12) (v := ?v12) ?hi12 ?h112 ?h212 ?h312 ?hQ12 (Or.inl ⟨?hw12, ?hy12⟩) (by assumption) ?rest12
  case hi12 => (simp only [List.getElem?_toArray, List.getElem?_cons_succ, List.getElem?_cons_zero]; rfl)
  case h112 => kernel_rfl
  case h212 => kernel_rfl
  case h312 => kernel_rfl
  case hQ12 => exact fun _ _ _ h => h
  case hw12 => rfl
  case hy12 => (intro w hSw; obtain ⟨n, rfl⟩ := hSw; go_simp; first | done | with_reducible rfl)
  (try simp only [Act.put, List.setIfInBounds_toArray, List.set_cons_zero, List.set_cons_succ])
  refine wpAnyH_ready (rs := [2]) (by kernel_rfl) (by simp) ?_
  refine AllReadyH.cons (o := ?o13) ?ho13 (fun K hK => ?st13) AllReadyH.nil
  case ho13 => (simp only [List.getElem?_toArray, List.getElem?_cons_succ, List.getElem?_cons_zero]; rfl)
  go_simp
  refine (refFloat_any _ _).mono ?_
  rintro e w' ⟨rfl, rfl⟩
  refine hK.out _ _ hHeld (fun hHeld => ?_)
  clear hK K
  (try simp only [Act.put, List.setIfInBounds_toArray, List.set_cons_zero, List.set_cons_succ])
  refine wpAnyH_ready (rs := [5]) (by kernel_rfl) (by simp) ?_
  refine AllReadyH.cons (o := ?o14) ?ho14 (fun K hK => ?st14) AllReadyH.nil
  case ho14 => (simp only [List.getElem?_toArray, List.getElem?_cons_succ, List.getElem?_cons_zero]; rfl)
  go_simp
  refine (refFloat_any _ _).mono ?_
  rintro e w' ⟨rfl, rfl⟩
  refine hK.out _ _ hHeld (fun hHeld => ?_)
  clear hK K
  (try simp only [Act.put, List.setIfInBounds_toArray, List.set_cons_zero, List.set_cons_succ])
  refine wpAnyH_ready (rs := [6]) (by kernel_rfl) (by simp) ?_
  refine AllReadyH.cons (o := ?o15) ?ho15 (fun K hK => ?st15) AllReadyH.nil
  case ho15 => (simp only [List.getElem?_toArray, List.getElem?_cons_succ, List.getElem?_cons_zero]; rfl)
  go_simp
  refine hK.out _ _ ⟨_, rfl⟩ (fun hHeld => ?_)
  clear hK K
  (try simp only [Act.put, List.setIfInBounds_toArray, List.set_cons_zero, List.set_cons_succ])
  refine wpAnyH_take (i := 7) (oi := ?oi16) (v := ?v16) ?hi16 ?h116 ?h216 ?h316 ?hQ16 (Or.inl ⟨?hw16, ?hy16⟩) (by assumption) ?rest16
  case hi16 => (simp only [List.getElem?_toArray, List.getElem?_cons_succ, List.getElem?_cons_zero]; rfl)
  case h116 => kernel_rfl
  case h216 => kernel_rfl
  case h316 => kernel_rfl
  case hQ16 => exact fun _ _ _ h => h
  case hw16 => rfl
  case hy16 => (intro w hSw; obtain ⟨n, rfl⟩ := hSw; go_simp; first | done | with_reducible rfl)
  (try simp only [Act.put, List.setIfInBounds_toArray, List.set_cons_zero, List.set_cons_succ])
  refine wpAnyH_done (by kernel_rfl) ?_ _
  clear hHeld
  have hq := fans_is (f := double.sub) (Or.inr (Or.inl rfl)) H2.out H4.out W1.drew
  obtain ⟨q, eq⟩ : ∃ r, r = fans double.sub ay b2 W1.drew := ⟨_, rfl⟩
  obtain ⟨W2, eW2⟩ : ∃ W, W = W1.drewN (1 + fdraw double.sub ay b2) := ⟨_, rfl⟩
  rw [← eq] at hq ⊢
  rw [← eW2]
  have Hq := Lib.hid hq
  replace hW : Below w.heap.size w W2 := by rw [eW2]; exact below_draws hW _
  clear eq eW2 hq
  clear a1 b1
  go_wp2_with fail
  obtain ⟨V1, eV1⟩ : ∃ V, V = W2.drewN (fdraw double.mul p p) := ⟨_, rfl⟩
  rw [← eV1]
  obtain ⟨V2, eV2⟩ : ∃ V, V = W2.drewN (fdraw double.mul p p + fdraw double.mul q q) := ⟨_, rfl⟩
  rw [← eV2]
  have hx := fans_is (f := double.mul) (Or.inr (Or.inr rfl)) Hp.out.1 Hp.out.1 W2
  have hy := fans_is (f := double.mul) (Or.inr (Or.inr rfl)) Hq.out.1 Hq.out.1 V1
  have hs := fans_is (f := double.add) (Or.inl rfl) hx.1 hy.1 V2
  obtain ⟨s, es⟩ : ∃ s, s = fans double.add (fans double.mul p p W2) (fans double.mul q q V1) V2 := ⟨_, rfl⟩
  obtain ⟨V3, eV3⟩ : ∃ V, V = W2.drewN (fdraw double.mul p p + fdraw double.mul q q + fdraw double.add (fans double.mul p p W2) (fans double.mul q q V1)) := ⟨_, rfl⟩
  rw [← es] at hs ⊢
  rw [← eV3]
  rw [hx.2, hy.2, Hp.out.2, Hq.out.2] at hs
  have hs2 : Cls s = T := by rw [hs.2, HT.out]; rfl
  have hW3 : Below w.heap.size w V3 := by rw [eV3]; exact below_draws hW _
  have HS := Lib.hid hs.1
  have HS2 := Lib.hid hs2
  have hk : Okc (Cls s) := cls_ok s hs.1
  have hcf := counts_firm hk
  rw [hs2] at hcf
  have HCF := Lib.hid hcf
  clear hs hs2 hx hy es eV1 eV2 eV3 hW hk hcf
  refine (counts_any s HS.out _).mono ?_
  rintro e w' ⟨rfl, rfl⟩
  rw [HS2.out, HCF.out]
  obtain ⟨f, hf⟩ : ∃ f, f = firmC T := ⟨_, rfl⟩
  rw [← hf]
  have HF := Lib.hid hf
  clear hf HCF
  cases f
  · go_wp2
    go_ret2
    exact ⟨_, by rw [← HF.out]; rfl, by unfold FarIs; rw [← HF.out]; rfl, hW3⟩
  · go_wp2
    go_ret2
    exact ⟨_, by rw [← HF.out]; rfl, by unfold FarIs; rw [← HF.out]; exact ⟨HS.out, HS2.out⟩, hW3⟩

theorem sure_ord {l r : Option Nat} (hl : Okc l) (hr : Okc r) (h : sureC l r = true) : ordC (opC double.sub l r) (some 0) = some .lt ∨ ordC (opC double.sub l r) (some 0) = some .gt := by
  obtain ⟨K, hK⟩ := isK_ex
  obtain ⟨O, hO⟩ := isO_ex
  obtain ⟨x, y, _, _, h1⟩ := sure_lr hK hO hl hr h
  obtain ⟨s, _, h2⟩ := h1 (x * K) (y * K) (by rw [Int.sub_self]; simp) (by rw [Int.sub_self]; simp)
  rcases h2 with h2 | h2
  · exact Or.inl h2.2
  · exact Or.inr h2.2
set_option maxHeartbeats 4000000 in
theorem refFloats_any (ax ay bx b2 cx cy : Nat) (h1 : ax < 18446744073709551616) (h2 : ay < 18446744073709551616) (h3 : bx < 18446744073709551616) (h4 : b2 < 18446744073709551616) (h5 : cx < 18446744073709551616) (h6 : cy < 18446744073709551616) (w : World) :
    Calls Try.prog 9 #[.agg #[.int .u64 (ax : Int), .int .u64 (ay : Int)], .agg #[.int .u64 (bx : Int), .int .u64 (b2 : Int)], .agg #[.int .u64 (cx : Int), .int .u64 (cy : Int)]] w fun e w' =>
      e = .returned (.tuple #[.int .i64 (signC (prodC (Cls ax) (Cls cx) (Cls b2) (Cls cy)) (prodC (Cls ay) (Cls cy) (Cls bx) (Cls cx))), .bool (sureC (prodC (Cls ax) (Cls cx) (Cls b2) (Cls cy)) (prodC (Cls ay) (Cls cy) (Cls bx) (Cls cx)))]) ∧ Below w.heap.size w w' := by
  obtain ⟨W0, hW0, hW, tA, tB, tC⟩ := enter3 w (.int .u64 (ax : Int)) (.int .u64 (ay : Int)) 24 (.int .u64 (bx : Int)) (.int .u64 (b2 : Int)) 24 (.int .u64 (cx : Int)) (.int .u64 (cy : Int)) 24
  have a0 := tA.c0; have a1 := tA.c1; have b0 := tB.c0; have b1 := tB.c1; have c0 := tC.c0; have c1 := tC.c1
  have oL := prod_ok (cls_ok ax h1) (cls_ok cx h5) (cls_ok b2 h4) (cls_ok cy h6)
  have oR := prod_ok (cls_ok ay h2) (cls_ok cy h6) (cls_ok bx h3) (cls_ok cx h5)
  have H1 := Lib.hid h1; have H2 := Lib.hid h2; have H3 := Lib.hid h3; have H4 := Lib.hid h4; have H5 := Lib.hid h5; have H6 := Lib.hid h6
  clear h1 h2 h3 h4 h5 h6 tA tB tC
  obtain ⟨L, hL⟩ : ∃ L, L = prodC (Cls ax) (Cls cx) (Cls b2) (Cls cy) := ⟨_, rfl⟩
  obtain ⟨R, hR⟩ : ∃ R, R = prodC (Cls ay) (Cls cy) (Cls bx) (Cls cx) := ⟨_, rfl⟩
  rw [← hL] at oL ⊢
  rw [← hR] at oR ⊢
  have HLD := Lib.hid hL
  have HRD := Lib.hid hR
  have HOL := Lib.hid oL
  have HOR := Lib.hid oR
  clear hL hR oL oR
  go_enter Try.func9, Try.ntmps9
  go_upto_region 1 with fail
  rw [← hW0]
  clear hW0
  refine wp_region_held_drew (S := fun w' => ∃ n, w' = W0.drewN n) (by kernel_rfl) ⟨1, rfl⟩ (fun hHeld => ?_)
  refine wpAnyH_take (i := 0) (oi := ?oi17) (v := ?v17) ?hi17 ?h117 ?h217 ?h317 ?hQ17 (Or.inl ⟨?hw17, ?hy17⟩) (by assumption) ?rest17
  case hi17 => (simp only [List.getElem?_toArray, List.getElem?_cons_zero]; rfl)
  case h117 => kernel_rfl
  case h217 => kernel_rfl
  case h317 => kernel_rfl
  case hQ17 => exact fun _ _ _ h => h
  case hw17 => rfl
  case hy17 => (intro w hSw; obtain ⟨n, rfl⟩ := hSw; go_simp; first | done | with_reducible rfl)
  (try simp only [Act.put, List.setIfInBounds_toArray, List.set_cons_zero, List.set_cons_succ])
  refine wpAnyH_take (i := 1) (oi := ?oi18) (v := ?v18) ?hi18 ?h118 ?h218 ?h318 ?hQ18 (Or.inl ⟨?hw18, ?hy18⟩) (by assumption) ?rest18
  case hi18 => (simp only [List.getElem?_toArray, List.getElem?_cons_succ, List.getElem?_cons_zero]; rfl)
  case h118 => kernel_rfl
  case h218 => kernel_rfl
  case h318 => kernel_rfl
  case hQ18 => exact fun _ _ _ h => h
  case hw18 => rfl
  case hy18 => (intro w hSw; obtain ⟨n, rfl⟩ := hSw; go_simp; first | done | with_reducible rfl)
  (try simp only [Act.put, List.setIfInBounds_toArray, List.set_cons_zero, List.set_cons_succ])
  refine wpAnyH_take (i := 3) (oi := ?oi19) (v := ?v19) ?hi19 ?h119 ?h219 ?h319 ?hQ19 (Or.inl ⟨?hw19, ?hy19⟩) (by assumption) ?rest19
  case hi19 => (simp only [List.getElem?_toArray, List.getElem?_cons_succ, List.getElem?_cons_zero]; rfl)
  case h119 => kernel_rfl
  case h219 => kernel_rfl
  case h319 => kernel_rfl
  case hQ19 => exact fun _ _ _ h => h
  case hw19 => rfl
  case hy19 => (intro w hSw; obtain ⟨n, rfl⟩ := hSw; go_simp; first | done | with_reducible rfl)
  (try simp only [Act.put, List.setIfInBounds_toArray, List.set_cons_zero, List.set_cons_succ])
  refine wpAnyH_take (i := 4) (oi := ?oi20) (v := ?v20) ?hi20 ?h120 ?h220 ?h320 ?hQ20 (Or.inl ⟨?hw20, ?hy20⟩) (by assumption) ?rest20
  case hi20 => (simp only [List.getElem?_toArray, List.getElem?_cons_succ, List.getElem?_cons_zero]; rfl)
  case h120 => kernel_rfl
  case h220 => kernel_rfl
  case h320 => kernel_rfl
  case hQ20 => exact fun _ _ _ h => h
  case hw20 => rfl
  case hy20 => (intro w hSw; obtain ⟨n, rfl⟩ := hSw; go_simp; first | done | with_reducible rfl)
  (try simp only [Act.put, List.setIfInBounds_toArray, List.set_cons_zero, List.set_cons_succ])
  refine wpAnyH_ready (rs := [2]) (by kernel_rfl) (by simp) ?_
  refine AllReadyH.cons (o := ?o21) ?ho21 (fun K hK => ?st21) AllReadyH.nil
  case ho21 => (simp only [List.getElem?_toArray, List.getElem?_cons_succ, List.getElem?_cons_zero]; rfl)
  go_simp
  refine (refFloat_any _ _).mono ?_
  rintro e w' ⟨rfl, rfl⟩
  refine hK.out _ _ hHeld (fun hHeld => ?_)
  clear hK K
  (try simp only [Act.put, List.setIfInBounds_toArray, List.set_cons_zero, List.set_cons_succ])
  refine wpAnyH_ready (rs := [5]) (by kernel_rfl) (by simp) ?_
  refine AllReadyH.cons (o := ?o22) ?ho22 (fun K hK => ?st22) AllReadyH.nil
  case ho22 => (simp only [List.getElem?_toArray, List.getElem?_cons_succ, List.getElem?_cons_zero]; rfl)
  go_simp
  refine (refFloat_any _ _).mono ?_
  rintro e w' ⟨rfl, rfl⟩
  refine hK.out _ _ hHeld (fun hHeld => ?_)
  clear hK K
  (try simp only [Act.put, List.setIfInBounds_toArray, List.set_cons_zero, List.set_cons_succ])
  refine wpAnyH_ready (rs := [6]) (by kernel_rfl) (by simp) ?_
  refine AllReadyH.cons (o := ?o23) ?ho23 (fun K hK => ?st23) AllReadyH.nil
  case ho23 => (simp only [List.getElem?_toArray, List.getElem?_cons_succ, List.getElem?_cons_zero]; rfl)
  go_simp
  refine hK.out _ _ ⟨_, rfl⟩ (fun hHeld => ?_)
  clear hK K
  (try simp only [Act.put, List.setIfInBounds_toArray, List.set_cons_zero, List.set_cons_succ])
  refine wpAnyH_take (i := 7) (oi := ?oi24) (v := ?v24) ?hi24 ?h124 ?h224 ?h324 ?hQ24 (Or.inl ⟨?hw24, ?hy24⟩) (by assumption) ?rest24
  case hi24 => (simp only [List.getElem?_toArray, List.getElem?_cons_succ, List.getElem?_cons_zero]; rfl)
  case h124 => kernel_rfl
  case h224 => kernel_rfl
  case h324 => kernel_rfl
  case hQ24 => exact fun _ _ _ h => h
  case hw24 => rfl
  case hy24 => (intro w hSw; obtain ⟨n, rfl⟩ := hSw; go_simp; first | done | with_reducible rfl)
  (try simp only [Act.put, List.setIfInBounds_toArray, List.set_cons_zero, List.set_cons_succ])
  refine wpAnyH_done (by kernel_rfl) ?_ _
  clear hHeld
  have hp := fans_is (f := double.sub) (Or.inr (Or.inl rfl)) H1.out H5.out W0.drew
  obtain ⟨p, ep⟩ : ∃ r, r = fans double.sub ax cx W0.drew := ⟨_, rfl⟩
  obtain ⟨W1, eW1⟩ : ∃ W, W = W0.drewN (1 + fdraw double.sub ax cx) := ⟨_, rfl⟩
  rw [← ep] at hp ⊢
  rw [← eW1]
  have Hp := Lib.hid hp
  replace hW : Below w.heap.size w W1 := by rw [eW1]; exact below_draws hW _
  replace a1 : W1.cell? ⟨w.heap.size, 1, none⟩ = some (.int .u64 (ay : Int)) := by rw [eW1]; exact a1
  replace b0 : W1.cell? ⟨w.heap.size + 1, 0, none⟩ = some (.int .u64 (bx : Int)) := by rw [eW1]; exact b0
  replace b1 : W1.cell? ⟨w.heap.size + 1, 1, none⟩ = some (.int .u64 (b2 : Int)) := by rw [eW1]; exact b1
  replace c0 : W1.cell? ⟨w.heap.size + 1 + 1, 0, none⟩ = some (.int .u64 (cx : Int)) := by rw [eW1]; exact c0
  replace c1 : W1.cell? ⟨w.heap.size + 1 + 1, 1, none⟩ = some (.int .u64 (cy : Int)) := by rw [eW1]; exact c1
  clear ep eW1 hp
  clear a0
  go_upto_region 2 with fail
  refine wp_region_held_drew (S := fun w' => ∃ n, w' = W1.drewN n) (by kernel_rfl) ⟨1, rfl⟩ (fun hHeld => ?_)
  refine wpAnyH_take (i := 0) (oi := ?oi25) (v := ?v25) ?hi25 ?h125 ?h225 ?h325 ?hQ25 (Or.inl ⟨?hw25, ?hy25⟩) (by assumption) ?rest25
  case hi25 => (simp only [List.getElem?_toArray, List.getElem?_cons_zero]; rfl)
  case h125 => kernel_rfl
  case h225 => kernel_rfl
  case h325 => kernel_rfl
  case hQ25 => exact fun _ _ _ h => h
  case hw25 => rfl
  case hy25 => (intro w hSw; obtain ⟨n, rfl⟩ := hSw; go_simp; first | done | with_reducible rfl)
  (try simp only [Act.put, List.setIfInBounds_toArray, List.set_cons_zero, List.set_cons_succ])
  refine wpAnyH_take (i := 1) (oi := ?oi26) (v := ?v26) ?hi26 ?h126 ?h226 ?h326 ?hQ26 (Or.inl ⟨?hw26, ?hy26⟩) (by assumption) ?rest26
  case hi26 => (simp only [List.getElem?_toArray, List.getElem?_cons_succ, List.getElem?_cons_zero]; rfl)
  case h126 => kernel_rfl
  case h226 => kernel_rfl
  case h326 => kernel_rfl
  case hQ26 => exact fun _ _ _ h => h
  case hw26 => rfl
  case hy26 => (intro w hSw; obtain ⟨n, rfl⟩ := hSw; go_simp; first | done | with_reducible rfl)
  (try simp only [Act.put, List.setIfInBounds_toArray, List.set_cons_zero, List.set_cons_succ])
  refine wpAnyH_take (i := 3) (oi := ?oi27) (v := ?v27) ?hi27 ?h127 ?h227 ?h327 ?hQ27 (Or.inl ⟨?hw27, ?hy27⟩) (by assumption) ?rest27
  case hi27 => (simp only [List.getElem?_toArray, List.getElem?_cons_succ, List.getElem?_cons_zero]; rfl)
  case h127 => kernel_rfl
  case h227 => kernel_rfl
  case h327 => kernel_rfl
  case hQ27 => exact fun _ _ _ h => h
  case hw27 => rfl
  case hy27 => (intro w hSw; obtain ⟨n, rfl⟩ := hSw; go_simp; first | done | with_reducible rfl)
  (try simp only [Act.put, List.setIfInBounds_toArray, List.set_cons_zero, List.set_cons_succ])
  refine wpAnyH_take (i := 4) (oi := ?oi28) (v := ?v28) ?hi28 ?h128 ?h228 ?h328 ?hQ28 (Or.inl ⟨?hw28, ?hy28⟩) (by assumption) ?rest28
  case hi28 => (simp only [List.getElem?_toArray, List.getElem?_cons_succ, List.getElem?_cons_zero]; rfl)
  case h128 => kernel_rfl
  case h228 => kernel_rfl
  case h328 => kernel_rfl
  case hQ28 => exact fun _ _ _ h => h
  case hw28 => rfl
  case hy28 => (intro w hSw; obtain ⟨n, rfl⟩ := hSw; go_simp; first | done | with_reducible rfl)
  (try simp only [Act.put, List.setIfInBounds_toArray, List.set_cons_zero, List.set_cons_succ])
  refine wpAnyH_ready (rs := [2]) (by kernel_rfl) (by simp) ?_
  refine AllReadyH.cons (o := ?o29) ?ho29 (fun K hK => ?st29) AllReadyH.nil
  case ho29 => (simp only [List.getElem?_toArray, List.getElem?_cons_succ, List.getElem?_cons_zero]; rfl)
  go_simp
  refine (refFloat_any _ _).mono ?_
  rintro e w' ⟨rfl, rfl⟩
  refine hK.out _ _ hHeld (fun hHeld => ?_)
  clear hK K
  (try simp only [Act.put, List.setIfInBounds_toArray, List.set_cons_zero, List.set_cons_succ])
  refine wpAnyH_ready (rs := [5]) (by kernel_rfl) (by simp) ?_
  refine AllReadyH.cons (o := ?o30) ?ho30 (fun K hK => ?st30) AllReadyH.nil
  case ho30 => (simp only [List.getElem?_toArray, List.getElem?_cons_succ, List.getElem?_cons_zero]; rfl)
  go_simp
  refine (refFloat_any _ _).mono ?_
  rintro e w' ⟨rfl, rfl⟩
  refine hK.out _ _ hHeld (fun hHeld => ?_)
  clear hK K
  (try simp only [Act.put, List.setIfInBounds_toArray, List.set_cons_zero, List.set_cons_succ])
  refine wpAnyH_ready (rs := [6]) (by kernel_rfl) (by simp) ?_
  refine AllReadyH.cons (o := ?o31) ?ho31 (fun K hK => ?st31) AllReadyH.nil
  case ho31 => (simp only [List.getElem?_toArray, List.getElem?_cons_succ, List.getElem?_cons_zero]; rfl)
  go_simp
  refine hK.out _ _ ⟨_, rfl⟩ (fun hHeld => ?_)
  clear hK K
  (try simp only [Act.put, List.setIfInBounds_toArray, List.set_cons_zero, List.set_cons_succ])
  refine wpAnyH_take (i := 7) (oi := ?oi32) (v := ?v32) ?hi32 ?h132 ?h232 ?h332 ?hQ32 (Or.inl ⟨?hw32, ?hy32⟩) (by assumption) ?rest32
  case hi32 => (simp only [List.getElem?_toArray, List.getElem?_cons_succ, List.getElem?_cons_zero]; rfl)
  case h132 => kernel_rfl
  case h232 => kernel_rfl
  case h332 => kernel_rfl
  case hQ32 => exact fun _ _ _ h => h
  case hw32 => rfl
  case hy32 => (intro w hSw; obtain ⟨n, rfl⟩ := hSw; go_simp; first | done | with_reducible rfl)
  (try simp only [Act.put, List.setIfInBounds_toArray, List.set_cons_zero, List.set_cons_succ])
  refine wpAnyH_done (by kernel_rfl) ?_ _
  clear hHeld
  have hq := fans_is (f := double.sub) (Or.inr (Or.inl rfl)) H4.out H6.out W1.drew
  obtain ⟨q, eq⟩ : ∃ r, r = fans double.sub b2 cy W1.drew := ⟨_, rfl⟩
  obtain ⟨W2, eW2⟩ : ∃ W, W = W1.drewN (1 + fdraw double.sub b2 cy) := ⟨_, rfl⟩
  rw [← eq] at hq ⊢
  rw [← eW2]
  have Hq := Lib.hid hq
  replace hW : Below w.heap.size w W2 := by rw [eW2]; exact below_draws hW _
  replace a1 : W2.cell? ⟨w.heap.size, 1, none⟩ = some (.int .u64 (ay : Int)) := by rw [eW2]; exact a1
  replace b0 : W2.cell? ⟨w.heap.size + 1, 0, none⟩ = some (.int .u64 (bx : Int)) := by rw [eW2]; exact b0
  replace c0 : W2.cell? ⟨w.heap.size + 1 + 1, 0, none⟩ = some (.int .u64 (cx : Int)) := by rw [eW2]; exact c0
  replace c1 : W2.cell? ⟨w.heap.size + 1 + 1, 1, none⟩ = some (.int .u64 (cy : Int)) := by rw [eW2]; exact c1
  clear eq eW2 hq
  clear b1
  go_upto_region 3 with fail
  refine wp_region_held_drew (S := fun w' => ∃ n, w' = W2.drewN n) (by kernel_rfl) ⟨1, rfl⟩ (fun hHeld => ?_)
  refine wpAnyH_take (i := 0) (oi := ?oi33) (v := ?v33) ?hi33 ?h133 ?h233 ?h333 ?hQ33 (Or.inl ⟨?hw33, ?hy33⟩) (by assumption) ?rest33
  case hi33 => (simp only [List.getElem?_toArray, List.getElem?_cons_zero]; rfl)
  case h133 => kernel_rfl
  case h233 => kernel_rfl
  case h333 => kernel_rfl
  case hQ33 => exact fun _ _ _ h => h
  case hw33 => rfl
  case hy33 => (intro w hSw; obtain ⟨n, rfl⟩ := hSw; go_simp; first | done | with_reducible rfl)
  (try simp only [Act.put, List.setIfInBounds_toArray, List.set_cons_zero, List.set_cons_succ])
  refine wpAnyH_take (i := 1) (oi := ?oi34) (v := ?v34) ?hi34 ?h134 ?h234 ?h334 ?hQ34 (Or.inl ⟨?hw34, ?hy34⟩) (by assumption) ?rest34
  case hi34 => (simp only [List.getElem?_toArray, List.getElem?_cons_succ, List.getElem?_cons_zero]; rfl)
  case h134 => kernel_rfl
  case h234 => kernel_rfl
  case h334 => kernel_rfl
  case hQ34 => exact fun _ _ _ h => h
  case hw34 => rfl
  case hy34 => (intro w hSw; obtain ⟨n, rfl⟩ := hSw; go_simp; first | done | with_reducible rfl)
  (try simp only [Act.put, List.setIfInBounds_toArray, List.set_cons_zero, List.set_cons_succ])
  refine wpAnyH_take (i := 3) (oi := ?oi35) (v := ?v35) ?hi35 ?h135 ?h235 ?h335 ?hQ35 (Or.inl ⟨?hw35, ?hy35⟩) (by assumption) ?rest35
  case hi35 => (simp only [List.getElem?_toArray, List.getElem?_cons_succ, List.getElem?_cons_zero]; rfl)
  case h135 => kernel_rfl
  case h235 => kernel_rfl
  case h335 => kernel_rfl
  case hQ35 => exact fun _ _ _ h => h
  case hw35 => rfl
  case hy35 => (intro w hSw; obtain ⟨n, rfl⟩ := hSw; go_simp; first | done | with_reducible rfl)
  (try simp only [Act.put, List.setIfInBounds_toArray, List.set_cons_zero, List.set_cons_succ])
  refine wpAnyH_take (i := 4) (oi := ?oi36) (v := ?v36) ?hi36 ?h136 ?h236 ?h336 ?hQ36 (Or.inl ⟨?hw36, ?hy36⟩) (by assumption) ?rest36
  case hi36 => (simp only [List.getElem?_toArray, List.getElem?_cons_succ, List.getElem?_cons_zero]; rfl)
  case h136 => kernel_rfl
  case h236 => kernel_rfl
  case h336 => kernel_rfl
  case hQ36 => exact fun _ _ _ h => h
  case hw36 => rfl
  case hy36 => (intro w hSw; obtain ⟨n, rfl⟩ := hSw; go_simp; first | done | with_reducible rfl)
  (try simp only [Act.put, List.setIfInBounds_toArray, List.set_cons_zero, List.set_cons_succ])
  refine wpAnyH_ready (rs := [2]) (by kernel_rfl) (by simp) ?_
  refine AllReadyH.cons (o := ?o37) ?ho37 (fun K hK => ?st37) AllReadyH.nil
  case ho37 => (simp only [List.getElem?_toArray, List.getElem?_cons_succ, List.getElem?_cons_zero]; rfl)
  go_simp
  refine (refFloat_any _ _).mono ?_
  rintro e w' ⟨rfl, rfl⟩
  refine hK.out _ _ hHeld (fun hHeld => ?_)
  clear hK K
  (try simp only [Act.put, List.setIfInBounds_toArray, List.set_cons_zero, List.set_cons_succ])
  refine wpAnyH_ready (rs := [5]) (by kernel_rfl) (by simp) ?_
  refine AllReadyH.cons (o := ?o38) ?ho38 (fun K hK => ?st38) AllReadyH.nil
  case ho38 => (simp only [List.getElem?_toArray, List.getElem?_cons_succ, List.getElem?_cons_zero]; rfl)
  go_simp
  refine (refFloat_any _ _).mono ?_
  rintro e w' ⟨rfl, rfl⟩
  refine hK.out _ _ hHeld (fun hHeld => ?_)
  clear hK K
  (try simp only [Act.put, List.setIfInBounds_toArray, List.set_cons_zero, List.set_cons_succ])
  refine wpAnyH_ready (rs := [6]) (by kernel_rfl) (by simp) ?_
  refine AllReadyH.cons (o := ?o39) ?ho39 (fun K hK => ?st39) AllReadyH.nil
  case ho39 => (simp only [List.getElem?_toArray, List.getElem?_cons_succ, List.getElem?_cons_zero]; rfl)
  go_simp
  refine hK.out _ _ ⟨_, rfl⟩ (fun hHeld => ?_)
  clear hK K
  (try simp only [Act.put, List.setIfInBounds_toArray, List.set_cons_zero, List.set_cons_succ])
  refine wpAnyH_take (i := 7) (oi := ?oi40) (v := ?v40) ?hi40 ?h140 ?h240 ?h340 ?hQ40 (Or.inl ⟨?hw40, ?hy40⟩) (by assumption) ?rest40
  case hi40 => (simp only [List.getElem?_toArray, List.getElem?_cons_succ, List.getElem?_cons_zero]; rfl)
  case h140 => kernel_rfl
  case h240 => kernel_rfl
  case h340 => kernel_rfl
  case hQ40 => exact fun _ _ _ h => h
  case hw40 => rfl
  case hy40 => (intro w hSw; obtain ⟨n, rfl⟩ := hSw; go_simp; first | done | with_reducible rfl)
  (try simp only [Act.put, List.setIfInBounds_toArray, List.set_cons_zero, List.set_cons_succ])
  refine wpAnyH_done (by kernel_rfl) ?_ _
  clear hHeld
  have hu := fans_is (f := double.sub) (Or.inr (Or.inl rfl)) H2.out H6.out W2.drew
  obtain ⟨u, eu⟩ : ∃ r, r = fans double.sub ay cy W2.drew := ⟨_, rfl⟩
  obtain ⟨W3, eW3⟩ : ∃ W, W = W2.drewN (1 + fdraw double.sub ay cy) := ⟨_, rfl⟩
  rw [← eu] at hu ⊢
  rw [← eW3]
  have Hu := Lib.hid hu
  replace hW : Below w.heap.size w W3 := by rw [eW3]; exact below_draws hW _
  replace b0 : W3.cell? ⟨w.heap.size + 1, 0, none⟩ = some (.int .u64 (bx : Int)) := by rw [eW3]; exact b0
  replace c0 : W3.cell? ⟨w.heap.size + 1 + 1, 0, none⟩ = some (.int .u64 (cx : Int)) := by rw [eW3]; exact c0
  clear eu eW3 hu
  clear a1 c1
  go_upto_region 4 with fail
  refine wp_region_held_drew (S := fun w' => ∃ n, w' = W3.drewN n) (by kernel_rfl) ⟨1, rfl⟩ (fun hHeld => ?_)
  refine wpAnyH_take (i := 0) (oi := ?oi41) (v := ?v41) ?hi41 ?h141 ?h241 ?h341 ?hQ41 (Or.inl ⟨?hw41, ?hy41⟩) (by assumption) ?rest41
  case hi41 => (simp only [List.getElem?_toArray, List.getElem?_cons_zero]; rfl)
  case h141 => kernel_rfl
  case h241 => kernel_rfl
  case h341 => kernel_rfl
  case hQ41 => exact fun _ _ _ h => h
  case hw41 => rfl
  case hy41 => (intro w hSw; obtain ⟨n, rfl⟩ := hSw; go_simp; first | done | with_reducible rfl)
  (try simp only [Act.put, List.setIfInBounds_toArray, List.set_cons_zero, List.set_cons_succ])
  refine wpAnyH_take (i := 1) (oi := ?oi42) (v := ?v42) ?hi42 ?h142 ?h242 ?h342 ?hQ42 (Or.inl ⟨?hw42, ?hy42⟩) (by assumption) ?rest42
  case hi42 => (simp only [List.getElem?_toArray, List.getElem?_cons_succ, List.getElem?_cons_zero]; rfl)
  case h142 => kernel_rfl
  case h242 => kernel_rfl
  case h342 => kernel_rfl
  case hQ42 => exact fun _ _ _ h => h
  case hw42 => rfl
  case hy42 => (intro w hSw; obtain ⟨n, rfl⟩ := hSw; go_simp; first | done | with_reducible rfl)
  (try simp only [Act.put, List.setIfInBounds_toArray, List.set_cons_zero, List.set_cons_succ])
  refine wpAnyH_take (i := 3) (oi := ?oi43) (v := ?v43) ?hi43 ?h143 ?h243 ?h343 ?hQ43 (Or.inl ⟨?hw43, ?hy43⟩) (by assumption) ?rest43
  case hi43 => (simp only [List.getElem?_toArray, List.getElem?_cons_succ, List.getElem?_cons_zero]; rfl)
  case h143 => kernel_rfl
  case h243 => kernel_rfl
  case h343 => kernel_rfl
  case hQ43 => exact fun _ _ _ h => h
  case hw43 => rfl
  case hy43 => (intro w hSw; obtain ⟨n, rfl⟩ := hSw; go_simp; first | done | with_reducible rfl)
  (try simp only [Act.put, List.setIfInBounds_toArray, List.set_cons_zero, List.set_cons_succ])
  refine wpAnyH_take (i := 4) (oi := ?oi44) (v := ?v44) ?hi44 ?h144 ?h244 ?h344 ?hQ44 (Or.inl ⟨?hw44, ?hy44⟩) (by assumption) ?rest44
  case hi44 => (simp only [List.getElem?_toArray, List.getElem?_cons_succ, List.getElem?_cons_zero]; rfl)
  case h144 => kernel_rfl
  case h244 => kernel_rfl
  case h344 => kernel_rfl
  case hQ44 => exact fun _ _ _ h => h
  case hw44 => rfl
  case hy44 => (intro w hSw; obtain ⟨n, rfl⟩ := hSw; go_simp; first | done | with_reducible rfl)
  (try simp only [Act.put, List.setIfInBounds_toArray, List.set_cons_zero, List.set_cons_succ])
  refine wpAnyH_ready (rs := [2]) (by kernel_rfl) (by simp) ?_
  refine AllReadyH.cons (o := ?o45) ?ho45 (fun K hK => ?st45) AllReadyH.nil
  case ho45 => (simp only [List.getElem?_toArray, List.getElem?_cons_succ, List.getElem?_cons_zero]; rfl)
  go_simp
  refine (refFloat_any _ _).mono ?_
  rintro e w' ⟨rfl, rfl⟩
  refine hK.out _ _ hHeld (fun hHeld => ?_)
  clear hK K
  (try simp only [Act.put, List.setIfInBounds_toArray, List.set_cons_zero, List.set_cons_succ])
  refine wpAnyH_ready (rs := [5]) (by kernel_rfl) (by simp) ?_
  refine AllReadyH.cons (o := ?o46) ?ho46 (fun K hK => ?st46) AllReadyH.nil
  case ho46 => (simp only [List.getElem?_toArray, List.getElem?_cons_succ, List.getElem?_cons_zero]; rfl)
  go_simp
  refine (refFloat_any _ _).mono ?_
  rintro e w' ⟨rfl, rfl⟩
  refine hK.out _ _ hHeld (fun hHeld => ?_)
  clear hK K
  (try simp only [Act.put, List.setIfInBounds_toArray, List.set_cons_zero, List.set_cons_succ])
  refine wpAnyH_ready (rs := [6]) (by kernel_rfl) (by simp) ?_
  refine AllReadyH.cons (o := ?o47) ?ho47 (fun K hK => ?st47) AllReadyH.nil
  case ho47 => (simp only [List.getElem?_toArray, List.getElem?_cons_succ, List.getElem?_cons_zero]; rfl)
  go_simp
  refine hK.out _ _ ⟨_, rfl⟩ (fun hHeld => ?_)
  clear hK K
  (try simp only [Act.put, List.setIfInBounds_toArray, List.set_cons_zero, List.set_cons_succ])
  refine wpAnyH_take (i := 7) (oi := ?oi48) (v := ?v48) ?hi48 ?h148 ?h248 ?h348 ?hQ48 (Or.inl ⟨?hw48, ?hy48⟩) (by assumption) ?rest48
  case hi48 => (simp only [List.getElem?_toArray, List.getElem?_cons_succ, List.getElem?_cons_zero]; rfl)
  case h148 => kernel_rfl
  case h248 => kernel_rfl
  case h348 => kernel_rfl
  case hQ48 => exact fun _ _ _ h => h
  case hw48 => rfl
  case hy48 => (intro w hSw; obtain ⟨n, rfl⟩ := hSw; go_simp; first | done | with_reducible rfl)
  (try simp only [Act.put, List.setIfInBounds_toArray, List.set_cons_zero, List.set_cons_succ])
  refine wpAnyH_done (by kernel_rfl) ?_ _
  clear hHeld
  have hv := fans_is (f := double.sub) (Or.inr (Or.inl rfl)) H3.out H5.out W3.drew
  obtain ⟨v, ev⟩ : ∃ r, r = fans double.sub bx cx W3.drew := ⟨_, rfl⟩
  obtain ⟨W4, eW4⟩ : ∃ W, W = W3.drewN (1 + fdraw double.sub bx cx) := ⟨_, rfl⟩
  rw [← ev] at hv ⊢
  rw [← eW4]
  have Hv := Lib.hid hv
  replace hW : Below w.heap.size w W4 := by rw [eW4]; exact below_draws hW _
  clear ev eW4 hv
  clear b0 c0
  go_wp2_with fail
  obtain ⟨V1, eV1⟩ : ∃ V, V = W4.drewN (fdraw double.mul p q) := ⟨_, rfl⟩
  rw [← eV1]
  obtain ⟨V2, eV2⟩ : ∃ V, V = W4.drewN (fdraw double.mul p q + fdraw double.mul u v) := ⟨_, rfl⟩
  rw [← eV2]
  have hl := fans_is (f := double.mul) (Or.inr (Or.inr rfl)) Hp.out.1 Hq.out.1 W4
  have hr := fans_is (f := double.mul) (Or.inr (Or.inr rfl)) Hu.out.1 Hv.out.1 V1
  obtain ⟨l, el⟩ : ∃ l, l = fans double.mul p q W4 := ⟨_, rfl⟩
  obtain ⟨r, er⟩ : ∃ r, r = fans double.mul u v V1 := ⟨_, rfl⟩
  rw [← el] at hl ⊢
  rw [← er] at hr ⊢
  have hd := fans_is (f := double.sub) (Or.inr (Or.inl rfl)) hl.1 hr.1 V2
  obtain ⟨d, ed⟩ : ∃ d, d = fans double.sub l r V2 := ⟨_, rfl⟩
  rw [← ed] at hd ⊢
  obtain ⟨V3, eV3⟩ : ∃ V, V = W4.drewN (fdraw double.mul p q + fdraw double.mul u v + fdraw double.sub l r) := ⟨_, rfl⟩
  rw [← eV3]
  have hW3 : Below w.heap.size w V3 := by rw [eV3]; exact below_draws hW _
  have hcl : Cls l = L := by rw [hl.2, Hp.out.2, Hq.out.2, HLD.out]; rfl
  have hcr : Cls r = R := by rw [hr.2, Hu.out.2, Hv.out.2, HRD.out]; rfl
  rw [hcl, hcr] at hd
  have HL := Lib.hid hl.1
  have HR := Lib.hid hr.1
  have HCL := Lib.hid hcl
  have HCR := Lib.hid hcr
  have HD := Lib.hid hd
  clear hl hr hd hcl hcr el er ed eV1 eV2 eV3 hW Hp Hq Hu Hv H1 H2 H3 H4 H5 H6 HLD HRD
  refine (abs_any l HL.out _).mono ?_
  rintro e w' ⟨rfl, rfl⟩
  go_wp2_with fail
  refine (abs_any r HR.out _).mono ?_
  rintro e w' ⟨rfl, rfl⟩
  go_wp2_with fail
  have hs := fans_is (f := double.add) (Or.inl rfl) (fR_lt64 l) (fR_lt64 r) V3
  obtain ⟨s, hss⟩ : ∃ s, s = fans double.add (fR l) (fR r) V3 := ⟨_, rfl⟩
  have hW4 := below_draws hW3 (fdraw double.add (fR l) (fR r))
  obtain ⟨V4, eV4⟩ : ∃ V, V = V3.drewN (fdraw double.add (fR l) (fR r)) := ⟨_, rfl⟩
  rw [← hss] at hs ⊢
  rw [← eV4] at hW4 ⊢
  rw [abs_cls, abs_cls, HCL.out, HCR.out] at hs
  have hcf := counts_firm (cls_ok s hs.1)
  obtain ⟨f, hf⟩ : ∃ f, f = firmC (Cls s) := ⟨_, rfl⟩
  rw [← hf] at hcf
  obtain ⟨o1, ho1⟩ : ∃ o, o = ordC (absC (Cls d)) (opC double.mul (Cls s) (some EPS)) := ⟨_, rfl⟩
  obtain ⟨o2, ho2⟩ : ∃ o, o = ordC (Cls d) (some 0) := ⟨_, rfl⟩
  have hsu : sureC L R = (f && !(o1 == some Ordering.lt)) := by rw [hf, ho1, hs.2, HD.out.2]; rfl
  have hsg : signC L R = if (f && !(o1 == some Ordering.lt)) then (if o2 == some Ordering.lt then -1 else 1) else 0 := by unfold signC; rw [hsu, ho2, HD.out.2]
  have hor : (f && !(o1 == some Ordering.lt)) = true → o2 = some .lt ∨ o2 = some .gt := by
    intro h; rw [ho2, HD.out.2]; exact sure_ord HOL.out HOR.out (by rw [hsu]; exact h)
  have hq1 : ∀ W, FloatKind.f64.format.order (fR d) (fans double.mul s 4382002437431492608 W) = o1 := fun W => by
    obtain ⟨K, hK⟩ := isK_ex
    have hm := fans_is (f := double.mul) (y := EPS) (Or.inr (Or.inr rfl)) hs.1 (EPS_fin hK).1.1 W
    rw [ho1, ← abs_cls, ← fin_cls (EPS_fin hK).1, ← hm.2]
    exact order_cls _ _ (fR_lt64 d) hm.1
  have hq2 : FloatKind.f64.format.order d 0 = o2 := by
    rw [ho2, ← fin_cls zero_fin.1]; exact order_cls _ _ HD.out.1 (by omega)
  have HS := Lib.hid hs.1
  have HSU := Lib.hid hsu
  have HSG := Lib.hid hsg
  have HOO := Lib.hid hor
  have HCF := Lib.hid hcf
  have HLE := Lib.hid Ldexp_EPS
  clear hsu hsg ho1 ho2 hor hs hss hcf hf hW3 eV4 HL HR HCL HCR HOL HOR
  refine (counts_any s HS.out _).mono ?_
  rintro e w' ⟨rfl, rfl⟩
  rw [HCF.out]
  clear HCF
  cases f
  · clear hq1 hq2
    go_wp2
    go_ret2
    exact ⟨by rw [HSU.out, HSG.out]; rfl, hW4⟩
  · go_wp2_with fail
    refine (abs_any d HD.out.1 _).mono ?_
    rintro e w' ⟨rfl, rfl⟩
    go_wp2_with fail
    refine (HLE.out _).mono ?_
    rintro e w' ⟨rfl, rfl⟩
    go_wp2
    all_goals
      clear hq1 hq2
      go_ret2
      exact ⟨by rw [HSU.out, HSG.out]; have h := HOO.out; clear HSU HSG HS HD HOO HLE; first | (simp_all; done) | (rcases h with h | h <;> simp_all), below_draws hW4 _⟩
end Go.Proofs.Ytknkakkdhihngaa
