/- Layer 7 (filter): Far. -/
import Derived.Test.YtknkakkdhihngaaFwH
import Derived.Test.YtknkakkdhihngaaFwI
import Derived.Deep.RegionHeld3
import Derived.Deep.DeepCutAuto
namespace Go.Proofs.Ytknkakkdhihngaa
open Go.RowKit Ieee
attribute [local go_sem] run_fadd run_fsub run_fmul run_store_float run_store_func

set_option maxHeartbeats 4000000 in
theorem far_any (ax ay bx b2 : Nat) (h1 : ax < 18446744073709551616) (h2 : ay < 18446744073709551616) (h3 : bx < 18446744073709551616) (h4 : b2 < 18446744073709551616) (w : World) :
    Calls Try.prog 10 #[.agg #[.int .u64 (ax : Int), .int .u64 (ay : Int)], .agg #[.int .u64 (bx : Int), .int .u64 (b2 : Int)]] w fun e w' =>
      ∃ r, e = .returned (.tuple #[.float .f64 r, .bool (firmC (farC (Cls ax) (Cls ay) (Cls bx) (Cls b2)))]) ∧ FarIs (farC (Cls ax) (Cls ay) (Cls bx) (Cls b2)) r ∧ Below w.heap.size w w' := by
  obtain ⟨W0, hW0, hW, tA, tB⟩ := enter2 w (.int .u64 (ax : Int)) (.int .u64 (ay : Int)) 24 (.int .u64 (bx : Int)) (.int .u64 (b2 : Int)) 24
  have a0 := tA.c0; have a1 := tA.c1; have b0 := tB.c0; have b1 := tB.c1
  have H1 := Lib.hid h1; have H2 := Lib.hid h2; have H3 := Lib.hid h3; have H4 := Lib.hid h4
  clear h1 h2 h3 h4 tA tB
  obtain ⟨T, hT⟩ : ∃ T, T = farC (Cls ax) (Cls ay) (Cls bx) (Cls b2) := ⟨_, rfl⟩
  rw [← hT]
  have HT := Lib.hid hT
  clear hT
  obtain ⟨L, hL⟩ : ∃ L, L = prodC (Cls ax) (Cls bx) (Cls ax) (Cls bx) := ⟨_, rfl⟩
  obtain ⟨R, hR⟩ : ∃ R, R = prodC (Cls ay) (Cls b2) (Cls ay) (Cls b2) := ⟨_, rfl⟩
  have HlX := Lib.hid hL
  have HrX := Lib.hid hR
  clear hL hR
  go_enter Try.func10, Try.ntmps10
  go_wp2_with fail
  rw [← hW0]
  clear hW0
  refine (rounding_any _).mono ?_
  rintro e w' ⟨rfl, rfl⟩
  go_upto_region 2 with fail
  refine wp_region_held_drew (S := fun w' => Below W0.heap.size W0 w' ∧ w'.cell? ⟨w.heap.size, 0, none⟩ = some (.int .u64 (ax : Int)) ∧ w'.cell? ⟨w.heap.size, 1, none⟩ = some (.int .u64 (ay : Int)) ∧ w'.cell? ⟨w.heap.size + 1, 0, none⟩ = some (.int .u64 (bx : Int)) ∧ w'.cell? ⟨w.heap.size + 1, 1, none⟩ = some (.int .u64 (b2 : Int))) (by kernel_rfl) ⟨kd0, a0, a1, b0, b1⟩ (fun hHeld => ?_)
  clear a0 a1 b0 b1
  refine wpAnyH_take (i := 0) (oi := ?oi1) (v := ?v1) ?hi1 ?h11 ?h21 ?h31 ?hQ1 (Or.inl ⟨?hw1, ?hy1⟩) hHeld ?rest1
  case hi1 => (simp only [List.getElem?_toArray, List.getElem?_cons_zero]; rfl)
  case h11 => kernel_rfl
  case h21 => kernel_rfl
  case h31 => kernel_rfl
  case hQ1 => exact fun _ _ _ h => h
  case hw1 => rfl
  case hy1 => (intro w hSw; obtain ⟨_, s0, s1, s2, s3⟩ := hSw; go_simp; first | done | with_reducible rfl)
  (try simp only [Act.put, List.setIfInBounds_toArray, List.set_cons_zero, List.set_cons_succ])
  refine wpAnyH_take (i := 1) (oi := ?oi2) (v := ?v2) ?hi2 ?h12 ?h22 ?h32 ?hQ2 (Or.inl ⟨?hw2, ?hy2⟩) hHeld ?rest2
  case hi2 => (simp only [List.getElem?_toArray, List.getElem?_cons_succ, List.getElem?_cons_zero]; rfl)
  case h12 => kernel_rfl
  case h22 => kernel_rfl
  case h32 => kernel_rfl
  case hQ2 => exact fun _ _ _ h => h
  case hw2 => rfl
  case hy2 => (intro w hSw; obtain ⟨_, s0, s1, s2, s3⟩ := hSw; go_simp; first | done | with_reducible rfl)
  (try simp only [Act.put, List.setIfInBounds_toArray, List.set_cons_zero, List.set_cons_succ])
  refine wpAnyH_take (i := 2) (oi := ?oi3) (v := ?v3) ?hi3 ?h13 ?h23 ?h33 ?hQ3 (Or.inl ⟨?hw3, ?hy3⟩) hHeld ?rest3
  case hi3 => (simp only [List.getElem?_toArray, List.getElem?_cons_succ, List.getElem?_cons_zero]; rfl)
  case h13 => kernel_rfl
  case h23 => kernel_rfl
  case h33 => kernel_rfl
  case hQ3 => exact fun _ _ _ h => h
  case hw3 => rfl
  case hy3 => (intro w hSw; obtain ⟨_, s0, s1, s2, s3⟩ := hSw; go_simp; first | done | with_reducible rfl)
  (try simp only [Act.put, List.setIfInBounds_toArray, List.set_cons_zero, List.set_cons_succ])
  refine wpAnyH_take (i := 3) (oi := ?oi4) (v := ?v4) ?hi4 ?h14 ?h24 ?h34 ?hQ4 (Or.inl ⟨?hw4, ?hy4⟩) hHeld ?rest4
  case hi4 => (simp only [List.getElem?_toArray, List.getElem?_cons_succ, List.getElem?_cons_zero]; rfl)
  case h14 => kernel_rfl
  case h24 => kernel_rfl
  case h34 => kernel_rfl
  case hQ4 => exact fun _ _ _ h => h
  case hw4 => rfl
  case hy4 => (intro w hSw; obtain ⟨_, s0, s1, s2, s3⟩ := hSw; go_simp; first | done | with_reducible rfl)
  (try simp only [Act.put, List.setIfInBounds_toArray, List.set_cons_zero, List.set_cons_succ])
  refine wpAnyH_take (i := 4) (oi := ?oi5) (v := ?v5) ?hi5 ?h15 ?h25 ?h35 ?hQ5 (Or.inl ⟨?hw5, ?hy5⟩) hHeld ?rest5
  case hi5 => (simp only [List.getElem?_toArray, List.getElem?_cons_succ, List.getElem?_cons_zero]; rfl)
  case h15 => kernel_rfl
  case h25 => kernel_rfl
  case h35 => kernel_rfl
  case hQ5 => exact fun _ _ _ h => h
  case hw5 => rfl
  case hy5 => (intro w hSw; obtain ⟨_, s0, s1, s2, s3⟩ := hSw; go_simp; first | done | with_reducible rfl)
  (try simp only [Act.put, List.setIfInBounds_toArray, List.set_cons_zero, List.set_cons_succ])
  refine wpAnyH_take (i := 5) (oi := ?oi6) (v := ?v6) ?hi6 ?h16 ?h26 ?h36 ?hQ6 (Or.inl ⟨?hw6, ?hy6⟩) hHeld ?rest6
  case hi6 => (simp only [List.getElem?_toArray, List.getElem?_cons_succ, List.getElem?_cons_zero]; rfl)
  case h16 => kernel_rfl
  case h26 => kernel_rfl
  case h36 => kernel_rfl
  case hQ6 => exact fun _ _ _ h => h
  case hw6 => rfl
  case hy6 => (intro w hSw; obtain ⟨_, s0, s1, s2, s3⟩ := hSw; go_simp; first | done | with_reducible rfl)
  (try simp only [Act.put, List.setIfInBounds_toArray, List.set_cons_zero, List.set_cons_succ])
  refine wpAnyH_take (i := 6) (oi := ?oi7) (v := ?v7) ?hi7 ?h17 ?h27 ?h37 ?hQ7 (Or.inl ⟨?hw7, ?hy7⟩) hHeld ?rest7
  case hi7 => (simp only [List.getElem?_toArray, List.getElem?_cons_succ, List.getElem?_cons_zero]; rfl)
  case h17 => kernel_rfl
  case h27 => kernel_rfl
  case h37 => kernel_rfl
  case hQ7 => exact fun _ _ _ h => h
  case hw7 => rfl
  case hy7 => (intro w hSw; obtain ⟨_, s0, s1, s2, s3⟩ := hSw; go_simp; first | done | with_reducible rfl)
  (try simp only [Act.put, List.setIfInBounds_toArray, List.set_cons_zero, List.set_cons_succ])
  refine wpAnyH_take (i := 7) (oi := ?oi8) (v := ?v8) ?hi8 ?h18 ?h28 ?h38 ?hQ8 (Or.inl ⟨?hw8, ?hy8⟩) hHeld ?rest8
  case hi8 => (simp only [List.getElem?_toArray, List.getElem?_cons_succ, List.getElem?_cons_zero]; rfl)
  case h18 => kernel_rfl
  case h28 => kernel_rfl
  case h38 => kernel_rfl
  case hQ8 => exact fun _ _ _ h => h
  case hw8 => rfl
  case hy8 => (intro w hSw; obtain ⟨_, s0, s1, s2, s3⟩ := hSw; go_simp; first | done | with_reducible rfl)
  (try simp only [Act.put, List.setIfInBounds_toArray, List.set_cons_zero, List.set_cons_succ])
  refine wpAnyH_take (i := 8) (oi := ?oi9) (v := ?v9) ?hi9 ?h19 ?h29 ?h39 ?hQ9 (Or.inl ⟨?hw9, ?hy9⟩) hHeld ?rest9
  case hi9 => (simp only [List.getElem?_toArray, List.getElem?_cons_succ, List.getElem?_cons_zero]; rfl)
  case h19 => kernel_rfl
  case h29 => kernel_rfl
  case h39 => kernel_rfl
  case hQ9 => exact fun _ _ _ h => h
  case hw9 => rfl
  case hy9 => (intro w hSw; obtain ⟨_, s0, s1, s2, s3⟩ := hSw; go_simp; first | done | with_reducible rfl)
  (try simp only [Act.put, List.setIfInBounds_toArray, List.set_cons_zero, List.set_cons_succ])
  refine wpAnyH_take (i := 10) (oi := ?oi10) (v := ?v10) ?hi10 ?h110 ?h210 ?h310 ?hQ10 (Or.inl ⟨?hw10, ?hy10⟩) hHeld ?rest10
  case hi10 => (simp only [List.getElem?_toArray, List.getElem?_cons_succ, List.getElem?_cons_zero]; rfl)
  case h110 => kernel_rfl
  case h210 => kernel_rfl
  case h310 => kernel_rfl
  case hQ10 => exact fun _ _ _ h => h
  case hw10 => rfl
  case hy10 => (intro w hSw; obtain ⟨_, s0, s1, s2, s3⟩ := hSw; go_simp; first | done | with_reducible rfl)
  (try simp only [Act.put, List.setIfInBounds_toArray, List.set_cons_zero, List.set_cons_succ])
  refine wpAnyH_take (i := 11) (oi := ?oi11) (v := ?v11) ?hi11 ?h111 ?h211 ?h311 ?hQ11 (Or.inl ⟨?hw11, ?hy11⟩) hHeld ?rest11
  case hi11 => (simp only [List.getElem?_toArray, List.getElem?_cons_succ, List.getElem?_cons_zero]; rfl)
  case h111 => kernel_rfl
  case h211 => kernel_rfl
  case h311 => kernel_rfl
  case hQ11 => exact fun _ _ _ h => h
  case hw11 => rfl
  case hy11 => (intro w hSw; obtain ⟨_, s0, s1, s2, s3⟩ := hSw; go_simp; first | done | with_reducible rfl)
  (try simp only [Act.put, List.setIfInBounds_toArray, List.set_cons_zero, List.set_cons_succ])
  refine wpAnyH_take (i := 12) (oi := ?oi12) (v := ?v12) ?hi12 ?h112 ?h212 ?h312 ?hQ12 (Or.inl ⟨?hw12, ?hy12⟩) hHeld ?rest12
  case hi12 => (simp only [List.getElem?_toArray, List.getElem?_cons_succ, List.getElem?_cons_zero]; rfl)
  case h112 => kernel_rfl
  case h212 => kernel_rfl
  case h312 => kernel_rfl
  case hQ12 => exact fun _ _ _ h => h
  case hw12 => rfl
  case hy12 => (intro w hSw; obtain ⟨_, s0, s1, s2, s3⟩ := hSw; go_simp; first | done | with_reducible rfl)
  (try simp only [Act.put, List.setIfInBounds_toArray, List.set_cons_zero, List.set_cons_succ])
  refine wpAnyH_take (i := 13) (oi := ?oi13) (v := ?v13) ?hi13 ?h113 ?h213 ?h313 ?hQ13 (Or.inl ⟨?hw13, ?hy13⟩) hHeld ?rest13
  case hi13 => (simp only [List.getElem?_toArray, List.getElem?_cons_succ, List.getElem?_cons_zero]; rfl)
  case h113 => kernel_rfl
  case h213 => kernel_rfl
  case h313 => kernel_rfl
  case hQ13 => exact fun _ _ _ h => h
  case hw13 => rfl
  case hy13 => (intro w hSw; obtain ⟨_, s0, s1, s2, s3⟩ := hSw; go_simp; first | done | with_reducible rfl)
  (try simp only [Act.put, List.setIfInBounds_toArray, List.set_cons_zero, List.set_cons_succ])
  refine wpAnyH_take (i := 14) (oi := ?oi14) (v := ?v14) ?hi14 ?h114 ?h214 ?h314 ?hQ14 (Or.inl ⟨?hw14, ?hy14⟩) hHeld ?rest14
  case hi14 => (simp only [List.getElem?_toArray, List.getElem?_cons_succ, List.getElem?_cons_zero]; rfl)
  case h114 => kernel_rfl
  case h214 => kernel_rfl
  case h314 => kernel_rfl
  case hQ14 => exact fun _ _ _ h => h
  case hw14 => rfl
  case hy14 => (intro w hSw; obtain ⟨_, s0, s1, s2, s3⟩ := hSw; go_simp; first | done | with_reducible rfl)
  (try simp only [Act.put, List.setIfInBounds_toArray, List.set_cons_zero, List.set_cons_succ])
  refine wpAnyH_take (i := 15) (oi := ?oi15) (v := ?v15) ?hi15 ?h115 ?h215 ?h315 ?hQ15 (Or.inl ⟨?hw15, ?hy15⟩) hHeld ?rest15
  case hi15 => (simp only [List.getElem?_toArray, List.getElem?_cons_succ, List.getElem?_cons_zero]; rfl)
  case h115 => kernel_rfl
  case h215 => kernel_rfl
  case h315 => kernel_rfl
  case hQ15 => exact fun _ _ _ h => h
  case hw15 => rfl
  case hy15 => (intro w hSw; obtain ⟨_, s0, s1, s2, s3⟩ := hSw; go_simp; first | done | with_reducible rfl)
  (try simp only [Act.put, List.setIfInBounds_toArray, List.set_cons_zero, List.set_cons_succ])
  refine wpAnyH_take (i := 16) (oi := ?oi16) (v := ?v16) ?hi16 ?h116 ?h216 ?h316 ?hQ16 (Or.inl ⟨?hw16, ?hy16⟩) hHeld ?rest16
  case hi16 => (simp only [List.getElem?_toArray, List.getElem?_cons_succ, List.getElem?_cons_zero]; rfl)
  case h116 => kernel_rfl
  case h216 => kernel_rfl
  case h316 => kernel_rfl
  case hQ16 => exact fun _ _ _ h => h
  case hw16 => rfl
  case hy16 => (intro w hSw; obtain ⟨_, s0, s1, s2, s3⟩ := hSw; go_simp; first | done | with_reducible rfl)
  (try simp only [Act.put, List.setIfInBounds_toArray, List.set_cons_zero, List.set_cons_succ])
  refine wpAnyH_take (i := 17) (oi := ?oi17) (v := ?v17) ?hi17 ?h117 ?h217 ?h317 ?hQ17 (Or.inl ⟨?hw17, ?hy17⟩) hHeld ?rest17
  case hi17 => (simp only [List.getElem?_toArray, List.getElem?_cons_succ, List.getElem?_cons_zero]; rfl)
  case h117 => kernel_rfl
  case h217 => kernel_rfl
  case h317 => kernel_rfl
  case hQ17 => exact fun _ _ _ h => h
  case hw17 => rfl
  case hy17 => (intro w hSw; obtain ⟨_, s0, s1, s2, s3⟩ := hSw; go_simp; first | done | with_reducible rfl)
  (try simp only [Act.put, List.setIfInBounds_toArray, List.set_cons_zero, List.set_cons_succ])
  refine wpAnyH_ready (rs := [9]) (by kernel_rfl) (by simp) ?_
  refine AllReadyH.cons (o := ?o18) ?ho18 (fun K hK => ?st18) AllReadyH.nil
  case ho18 => (simp only [List.getElem?_toArray, List.getElem?_cons_succ, List.getElem?_cons_zero]; rfl)
  go_simp
  refine (product_any ax bx ax bx H1.out H3.out H1.out H3.out _).mono ?_
  rintro e W1 ⟨l, rfl, hl, hcl, hb⟩
  rw [← HlX.out] at hcl
  have Hl := Lib.hid hl
  have HCl := Lib.hid hcl
  clear hl hcl
  refine hK.out _ _ ⟨below_next hHeld.1 hb, kp hb hHeld.2.1, kp hb hHeld.2.2.1, kp hb hHeld.2.2.2.1, kp hb hHeld.2.2.2.2⟩ (fun hHeld => ?_)
  clear hK K
  (try simp only [Act.put, List.setIfInBounds_toArray, List.set_cons_zero, List.set_cons_succ])
  clear hb
  refine wpAnyH_ready (rs := [18]) (by kernel_rfl) (by simp) ?_
  refine AllReadyH.cons (o := ?o19) ?ho19 (fun K hK => ?st19) AllReadyH.nil
  case ho19 => (simp only [List.getElem?_toArray, List.getElem?_cons_succ, List.getElem?_cons_zero]; rfl)
  go_simp
  refine (product_any ay b2 ay b2 H2.out H4.out H2.out H4.out _).mono ?_
  rintro e W2 ⟨r, rfl, hr, hcr, hb⟩
  rw [← HrX.out] at hcr
  have Hr := Lib.hid hr
  have HCr := Lib.hid hcr
  clear hr hcr
  refine hK.out _ _ ⟨below_next hHeld.1 hb, kp hb hHeld.2.1, kp hb hHeld.2.2.1, kp hb hHeld.2.2.2.1, kp hb hHeld.2.2.2.2⟩ (fun hHeld => ?_)
  clear hK K
  (try simp only [Act.put, List.setIfInBounds_toArray, List.set_cons_zero, List.set_cons_succ])
  clear hb
  refine wpAnyH_ready (rs := [19]) (by kernel_rfl) (by simp) ?_
  refine AllReadyH.cons (o := ?o20) ?ho20 (fun K hK => ?st20) AllReadyH.nil
  case ho20 => (simp only [List.getElem?_toArray, List.getElem?_cons_succ, List.getElem?_cons_zero]; rfl)
  go_simp
  refine hK.out _ _ ⟨below_draws hHeld.1 _, hHeld.2.1, hHeld.2.2.1, hHeld.2.2.2.1, hHeld.2.2.2.2⟩ (fun hHeld => ?_)
  clear hK K
  (try simp only [Act.put, List.setIfInBounds_toArray, List.set_cons_zero, List.set_cons_succ])
  refine wpAnyH_ready (rs := [20]) (by kernel_rfl) (by simp) ?_
  refine AllReadyH.cons (o := ?o21) ?ho21 (fun K hK => ?st21) AllReadyH.nil
  case ho21 => (simp only [List.getElem?_toArray, List.getElem?_cons_succ, List.getElem?_cons_zero]; rfl)
  go_simp
  refine (round_any _ _).mono ?_
  rintro e w' ⟨rfl, rfl⟩
  refine hK.out _ _ hHeld (fun hHeld => ?_)
  clear hK K
  (try simp only [Act.put, List.setIfInBounds_toArray, List.set_cons_zero, List.set_cons_succ])
  refine wpAnyH_take (i := 21) (oi := ?oi22) (v := ?v22) ?hi22 ?h122 ?h222 ?h322 ?hQ22 (Or.inl ⟨?hw22, ?hy22⟩) hHeld ?rest22
  case hi22 => (simp only [List.getElem?_toArray, List.getElem?_cons_succ, List.getElem?_cons_zero]; rfl)
  case h122 => kernel_rfl
  case h222 => kernel_rfl
  case h322 => kernel_rfl
  case hQ22 => exact fun _ _ _ h => h
  case hw22 => rfl
  case hy22 => (intro w hSw; obtain ⟨_, s0, s1, s2, s3⟩ := hSw; go_simp; first | done | with_reducible rfl)
  (try simp only [Act.put, List.setIfInBounds_toArray, List.set_cons_zero, List.set_cons_succ])
  refine wpAnyH_done (by kernel_rfl) ?_ _
  have hW2 := below_next hW hHeld.1
  clear hHeld
  have hs := fans_is (f := double.add) (Or.inl rfl) Hl.out Hr.out W2
  obtain ⟨s, es⟩ : ∃ s, s = fans double.add l r W2 := ⟨_, rfl⟩
  obtain ⟨V, eV⟩ : ∃ V, V = W2.drewN (fdraw double.add l r) := ⟨_, rfl⟩
  rw [← es] at hs ⊢
  rw [← eV] at hW2 ⊢
  have hs2 : Cls s = T := by rw [hs.2, HCl.out, HCr.out, HlX.out, HrX.out, HT.out]; rfl
  have HS := Lib.hid hs.1
  have HS2 := Lib.hid hs2
  clear hs hs2 es eV Hl Hr HCl HCr HlX HrX H1 H2 H3 H4 HT
  go_wp2_with fail
  refine (firm_any s HS.out _).mono ?_
  rintro e w' ⟨rfl, rfl⟩
  rw [HS2.out]
  obtain ⟨f, hf⟩ : ∃ f, f = firmC T := ⟨_, rfl⟩
  rw [← hf]
  have HF := Lib.hid hf
  clear hf
  cases f
  · go_wp2
    go_ret2
    exact ⟨_, by rw [← HF.out]; rfl, by unfold FarIs; rw [← HF.out]; rfl, hW2⟩
  · go_wp2
    go_ret2
    exact ⟨_, by rw [← HF.out]; rfl, by unfold FarIs; rw [← HF.out]; exact ⟨HS.out, HS2.out⟩, hW2⟩
end Go.Proofs.Ytknkakkdhihngaa
