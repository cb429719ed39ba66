/- Layer 7 (filter): the product of two differences. -/
import Derived.Test.YtknkakkdhihngaaFwG
namespace Go.Proofs.Ytknkakkdhihngaa
open Go.RowKit Ieee
attribute [local go_sem] run_fadd run_fsub run_fmul run_store_float run_store_func

theorem cell_first (w : World) (v : Value) (T : TypeId) : (w.alloc (.cells #[v] T)).cell? ⟨w.heap.size, 0, none⟩ = some v := cell_alloc_drewN w 0 v T
set_option maxHeartbeats 4000000 in
theorem product_any (p q t u : Nat) (hp : p < 18446744073709551616) (hq : q < 18446744073709551616) (ht : t < 18446744073709551616) (hu : u < 18446744073709551616) (w : World) :
    Calls Try.prog 23 #[.int .u64 (p : Int), .int .u64 (q : Int), .int .u64 (t : Int), .int .u64 (u : Int)] w (GivesF w (prodC (Cls p) (Cls q) (Cls t) (Cls u))) := by
  have hmf : ∀ (fn : Fn) (first cap : Array Value) (w : World), (Instr.makeFunc fn first cap).run Try.prog w = .ok (.func fn first cap) w := fun _ _ _ _ => rfl
  have hc := cell_first w (.func (.func 38) #[] #[]) 46
  have hal : Below w.heap.size w (w.alloc (.cells #[.func (.func 38) #[] #[]] 46)) := bal
  obtain ⟨W0, hW0⟩ : ∃ W0, W0 = w.alloc (.cells #[.func (.func 38) #[] #[]] 46) := ⟨_, rfl⟩
  rw [← hW0] at hc hal
  obtain ⟨A, hA⟩ : ∃ A, A = w.heap.size := ⟨_, rfl⟩
  rw [← hA] at hc
  go_enter Try.func23, Try.ntmps23
  go_wp2_with fail
  refine (rounding_any _).mono ?_
  rintro e w' ⟨rfl, rfl⟩
  go_wp2_with fail
  rw [← hW0, ← hA]
  clear hW0 hA hmf
  have b0 := Below.refl W0.heap.size W0
  go_region_with (first
    | (go_at_call 39; (with_reducible refine (less_any A p q hp hq _ (by first | exact hc | exact kdc hc | exact kdc (kdc hc))).mono ?_); rintro e W1 ⟨r1, rfl, hr1, hc1, hb1⟩; have k1 : W1.cell? ⟨A, 0, none⟩ = some (.func (.func 38) #[] #[]) := (by first | exact kp hb1 hc | exact kp hb1 (kdc hc) | exact kp hb1 (kdc (kdc hc))); have b1 : Below W0.heap.size W0 W1 := (by first | exact kb hb1 b0 (Nat.le_refl _) | exact kb hb1 (kd b0) (Nat.le_refl _) | exact kb hb1 (kd (kd b0)) (Nat.le_refl _)))
    | (go_at_call 39; (with_reducible refine (less_any A t u ht hu _ (by first | exact k1 | exact kdc k1 | exact kdc (kdc k1))).mono ?_); rintro e W2 ⟨r2, rfl, hr2, hc2, hb2⟩; have k2 : W2.cell? ⟨A, 0, none⟩ = some (.func (.func 38) #[] #[]) := (by first | exact kp hb2 k1 | exact kp hb2 (kdc k1) | exact kp hb2 (kdc (kdc k1))); have b2 : Below W0.heap.size W0 W2 := (by first | exact kb hb2 b1 (Nat.le_refl _) | exact kb hb2 (kd b1) (Nat.le_refl _) | exact kb hb2 (kd (kd b1)) (Nat.le_refl _)))
    | (go_at_call 38; (with_reducible refine (round_any _ _).mono ?_); rintro e w' ⟨rfl, rfl⟩))
  all_goals
    have hm := fun W => fans_is (f := double.mul) (Or.inr (Or.inr rfl)) hr1 hr2 W
    clear k1 hc hb1 hb2 b1 b0
    go_wp2
    go_ret
    exact ⟨_, rfl, (hm _).1, by rw [(hm _).2, hc1, hc2]; rfl, below_next hal (by first | exact below_draws b2 _ | exact below_draws (kd b2) _ | exact kd (below_draws b2 _) | exact kd (below_draws (kd b2) _))⟩
end Go.Proofs.Ytknkakkdhihngaa
