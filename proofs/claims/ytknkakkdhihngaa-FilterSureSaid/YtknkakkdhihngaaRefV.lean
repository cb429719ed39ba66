/- The document's own answers for layer 2: New, From, To, Same, Sign, Neg; New and From, where a list without memory has no room. -/
import Derived.Test.YtknkakkdhihngaaInt
import Derived.Test.YtknkakkdhihngaaRefD
namespace Go.Proofs.Ytknkakkdhihngaa
open Go.RowKit

theorem digs_size_pos16 {x m : Nat} (h : (digs 65536 x).length = m) : decide (0 < m) = decide (0 < x) := by
  have := digs_length_pos (β := 65536) (by omega) x
  rw [decide_eq_decide]; omega
set_option maxHeartbeats 1000000 in
theorem refNew_any {B : Nat} (n : Bool) (q : Option Addr) (m c : Nat) (ds : List Nat) (w : World) (h : m ≤ c) (hl : m ≤ 4000000) (hR : Rd .u32 65536 B w q m ds) (hB : B ≤ w.heap.size) {x : Nat} (hx : val 65536 ds = x) :
    Calls Try.prog 20 #[.bool n, .slice q m c] w (GivesNum w (wv n x)) := by
  have HN := Lib.hid (wv_neg n x)
  have HX := Lib.hid hx
  obtain ⟨W0, hW0, hW, tZ⟩ := enter1 w (.bool false) (.slice none 0 0) 36
  replace hR := hR.below (hW.mono hB)
  clear hx
  go_enter Try.func20, Try.ntmps20
  go_wp2_with fail
  rw [← hW0]
  clear hW0
  refine (refTrim_val q m c ds W0 h hl hR).mono ?_
  rintro e w' ⟨m1, rfl, hm1, hR1, rfl⟩
  rw [HX.out] at hR1
  have HM := Lib.hid (digs_size_pos16 hR1.count)
  have t90 := tZ.c0; have t91 := tZ.c1; have t92 := tZ.f0; have t93 := tZ.f1
  have hR2 : Rd .u32 65536 W0.heap.size W0 q m1 (digs 65536 x) := hR1.mono (Nat.le_trans hB hW.size)
  cases n
  · have HF : Hid (decide (wv false x < 0) = false) := Lib.hid (by rw [HN.out]; rfl)
    have hr := (tZ.set0 (.bool false)).set1 (.slice q m1 c)
    have r0 := hr.c0
    have r1 := hr.c1
    go_wp2
    exact bodyPost_ret (v := .agg #[.bool false, .slice q m1 c]) (by simp [results, Try.results20, go_sem, r0, r1]) rfl
      ⟨_, rfl, by rw [← HF.out]; exact NumAt.set2 (by omega) (by rw [wv_abs]; exact hR2) tZ _ _, below_set2 hW (by omega)⟩
  · have HF : Hid (decide (wv true x < 0) = decide (0 < m1)) := Lib.hid (by rw [HN.out, HM.out]; rfl)
    have hr := (tZ.set0 (.bool (decide (0 < m1)))).set1 (.slice q m1 c)
    have r0 := hr.c0
    have r1 := hr.c1
    go_wp2
    exact bodyPost_ret (v := .agg #[.bool (decide (0 < m1)), .slice q m1 c]) (by simp [results, Try.results20, go_sem, r0, r1]) rfl
      ⟨_, rfl, by rw [← HF.out]; exact NumAt.set2 (by omega) (by rw [wv_abs]; exact hR2) tZ _ _, below_set2 hW (by omega)⟩




set_option maxHeartbeats 1000000 in
theorem refSign_any (v : Value) (z s : Int) (w : World) (hv : NumAt w v z) (hs : z.sign = s) :
    Calls Try.prog 36 #[v] w fun e w' => e = .returned (.int .i64 s) ∧ Below w.heap.size w w' := by
  obtain ⟨q, m, c, rfl, h1, hR⟩ := hv
  obtain ⟨W0, hW0, hW, tA⟩ := enter1 w (.bool (decide (z < 0))) (.slice q m c) 36
  have tA0 := tA.c0; have tA1 := tA.c1
  have hm := hR.count
  have h0 := digs_length_pos (β := 65536) (by omega) z.natAbs
  have HS := Lib.hid hs
  clear hs
  rcases sign_cases z with ⟨hz, hs⟩ | ⟨hz, hs⟩ | ⟨hz, hs⟩
  · rw [decide_eq_true hz] at tA0 hW0 ⊢
    have hm0 : 0 < m := by omega
    have HT : Hid (-1 = s) := Lib.hid (by rw [← hs]; exact HS.out)
    clear hz hs hm h0 HS
    go_enter Try.func36, Try.ntmps36
    go_wp2_with fail
    rw [← hW0]
    clear hW0
    go_wp2
    go_ret
    exact ⟨by rw [← HT.out]; rfl, hW⟩
  · have hm0 : m = 0 := by omega
    have HT : Hid (0 = s) := Lib.hid (by rw [← hs]; exact HS.out)
    rw [hm0] at tA1 hW0 ⊢
    clear hz hs hm h0 HS hm0
    go_enter Try.func36, Try.ntmps36
    go_wp2_with fail
    rw [← hW0]
    clear hW0
    go_wp2
    go_ret
    exact ⟨by rw [← HT.out]; rfl, hW⟩
  · rw [decide_eq_false (by omega : ¬ z < 0)] at tA0 hW0 ⊢
    have hm0 : 0 < m := by omega
    have HT : Hid (1 = s) := Lib.hid (by rw [← hs]; exact HS.out)
    clear hz hs hm h0 HS
    go_enter Try.func36, Try.ntmps36
    go_wp2_with fail
    rw [← hW0]
    clear hW0
    go_wp2
    go_ret
    exact ⟨by rw [← HT.out]; rfl, hW⟩

set_option maxHeartbeats 1000000 in
theorem refNeg_any (v : Value) (z : Int) (w : World) (hv : NumAt w v z) (hl : (digs 65536 z.natAbs).length ≤ 4000000) :
    Calls Try.prog 35 #[v] w (GivesNum w (-z)) := by
  obtain ⟨q, m, c, rfl, h1, hR⟩ := hv
  obtain ⟨W0, hW0, hW, tA, tZ⟩ := enter2 w (.bool (decide (z < 0))) (.slice q m c) 36 (.bool false) (.slice none 0 0) 36
  replace hR := hR.next hW
  have hm : m ≤ 4000000 := by have := hR.count; omega
  have HZ : Hid (wv (!(decide (z < 0))) z.natAbs = -z) := Lib.hid (by rw [wv_not, wv_self])
  obtain ⟨b, hb0⟩ : ∃ b, b = (decide (z < 0)) := ⟨_, rfl⟩
  rw [← hb0] at tA hW0 HZ ⊢
  have tA0 := tA.c0; have tA1 := tA.c1
  clear hl hb0
  go_enter Try.func35, Try.ntmps35
  go_wp2_with fail
  rw [← hW0]
  clear hW0
  go_wp2_with fail
  refine (refNew_any (!b) q m c _ _ h1 hm hR (Nat.le_refl _) (val_digs (by omega) _)).mono ?_
  rintro e W9 ⟨v, rfl, ⟨q9, m9, c9, rfl, hm9, hR9⟩, hb⟩
  clear tA0 tA1
  replace tZ := tZ.next hb
  replace hW := below_next hW hb
  clear hb tA
  have t90 := tZ.c0; have t91 := tZ.c1; have t92 := tZ.f0; have t93 := tZ.f1
  have hr := (tZ.set0 (.bool (decide (wv (!b) z.natAbs < 0)))).set1 (.slice q9 m9 c9)
  have r0 := hr.c0
  have r1 := hr.c1
  go_wp2
  exact bodyPost_ret (v := .agg #[.bool (decide (wv (!b) z.natAbs < 0)), .slice q9 m9 c9]) (by simp [results, Try.results35, go_sem, r0, r1]) rfl
    ⟨_, rfl, by rw [← HZ.out]; exact NumAt.set2 hm9 hR9 tZ _ _, below_set2 hW (by omega)⟩

/-- A number of the document's own answers; a list without memory has no room. -/
def NumN (w : World) (v : Value) (z : Int) : Prop :=
  ∃ q m c, v = .agg #[.bool (decide (z < 0)), .slice q m c] ∧ m ≤ c ∧ (q = none → c = 0) ∧ Rd .u32 65536 w.heap.size w q m (digs 65536 z.natAbs)
def GivesNumN (w : World) (z : Int) (e : Ending) (w' : World) : Prop := ∃ v, e = .returned v ∧ NumN w' v z ∧ Below w.heap.size w w'
theorem NumN.num {w : World} {v : Value} {z : Int} (h : NumN w v z) : NumAt w v z := by
  obtain ⟨q, m, c, h1, h2, _, h3⟩ := h
  exact ⟨q, m, c, h1, h2, h3⟩
theorem NumN.next {w w' : World} {v : Value} {z : Int} (h : NumN w v z) (hb : Below w.heap.size w w') : NumN w' v z := by
  obtain ⟨q, m, c, h1, h2, h4, h3⟩ := h
  exact ⟨q, m, c, h1, h2, h4, h3.next hb⟩
theorem NumN.set2 {W : World} {b : Nat} {n : Bool} {p : Option Addr} {l c : Nat} {T : TypeId} {z : Int} {q : Option Addr} {m k : Nat} (hm : m ≤ k) (hq : q = none → k = 0) (h : Rd .u32 65536 W.heap.size W q m (digs 65536 z.natAbs)) (ht : Two W b (.bool n) (.slice p l c) T) (u v : Value) :
    NumN ((W.setCell ⟨b, 0, none⟩ u).setCell ⟨b, 1, none⟩ v) (.agg #[.bool (decide (z < 0)), .slice q m k]) z := ⟨q, m, k, rfl, hm, hq, (h.set2 ht u v).mono (by simp)⟩
set_option maxHeartbeats 1000000 in
theorem refNewN_any {B : Nat} (n : Bool) (q : Option Addr) (m c : Nat) (ds : List Nat) (w : World) (h : m ≤ c) (hl : m ≤ 4000000) (hR : Rd .u32 65536 B w q m ds) (hB : B ≤ w.heap.size) {x : Nat} (hx : val 65536 ds = x) (hn : q = none → c = 0) :
    Calls Try.prog 20 #[.bool n, .slice q m c] w (GivesNumN w (wv n x)) := by
  have HN := Lib.hid (wv_neg n x)
  have HX := Lib.hid hx
  obtain ⟨W0, hW0, hW, tZ⟩ := enter1 w (.bool false) (.slice none 0 0) 36
  replace hR := hR.below (hW.mono hB)
  clear hx
  go_enter Try.func20, Try.ntmps20
  go_wp2_with fail
  rw [← hW0]
  clear hW0
  refine (refTrim_val q m c ds W0 h hl hR).mono ?_
  rintro e w' ⟨m1, rfl, hm1, hR1, rfl⟩
  rw [HX.out] at hR1
  have HM := Lib.hid (digs_size_pos16 hR1.count)
  have t90 := tZ.c0; have t91 := tZ.c1; have t92 := tZ.f0; have t93 := tZ.f1
  have hR2 : Rd .u32 65536 W0.heap.size W0 q m1 (digs 65536 x) := hR1.mono (Nat.le_trans hB hW.size)
  cases n
  · have HF : Hid (decide (wv false x < 0) = false) := Lib.hid (by rw [HN.out]; rfl)
    have hr := (tZ.set0 (.bool false)).set1 (.slice q m1 c)
    have r0 := hr.c0
    have r1 := hr.c1
    go_wp2
    exact bodyPost_ret (v := .agg #[.bool false, .slice q m1 c]) (by simp [results, Try.results20, go_sem, r0, r1]) rfl
      ⟨_, rfl, by rw [← HF.out]; exact NumN.set2 (by omega) hn (by rw [wv_abs]; exact hR2) tZ _ _, below_set2 hW (by omega)⟩
  · have HF : Hid (decide (wv true x < 0) = decide (0 < m1)) := Lib.hid (by rw [HN.out, HM.out]; rfl)
    have hr := (tZ.set0 (.bool (decide (0 < m1)))).set1 (.slice q m1 c)
    have r0 := hr.c0
    have r1 := hr.c1
    go_wp2
    exact bodyPost_ret (v := .agg #[.bool (decide (0 < m1)), .slice q m1 c]) (by simp [results, Try.results20, go_sem, r0, r1]) rfl
      ⟨_, rfl, by rw [← HF.out]; exact NumN.set2 (by omega) hn (by rw [wv_abs]; exact hR2) tZ _ _, below_set2 hW (by omega)⟩


end Go.Proofs.Ytknkakkdhihngaa
