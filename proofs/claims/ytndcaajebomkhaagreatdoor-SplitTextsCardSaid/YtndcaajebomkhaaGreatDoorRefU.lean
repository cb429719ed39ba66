/- The document's own numbers with what is known of their room: New and From, where a list without memory has no room. The reference's Text, of 0 too. -/
import Derived.Test.YtndcaajebomkhaaGreatDoorRefT
import Derived.Test.YtndcaajebomkhaaGreatDoorRefV
import Derived.Test.YtndcaajebomkhaaGreatDoorTxt
namespace Go.Proofs.YtndcaajebomkhaaGreatDoor
open Go.RowKit

/-- A number of the document's own answers; a list without memory has no room. -/
def NumN (w : World) (v : Value) (z : Int) : Prop :=
  ∃ q m c, v = .agg #[.bool (decide (z < 0)), .slice q m c] ∧ m ≤ c ∧ (q = none → c = 0) ∧ Rd .u32 65536 w.heap.size w q m (digs 65536 z.natAbs)
def GivesNumN (w : World) (z : Int) (e : Ending) (w' : World) : Prop := ∃ v, e = .returned v ∧ NumN w' v z ∧ Below w.heap.size w w'
theorem NumN.num {w : World} {v : Value} {z : Int} (h : NumN w v z) : NumAt w v z := by
  obtain ⟨q, m, c, h1, h2, _, h3⟩ := h
  exact ⟨q, m, c, h1, h2, h3⟩
theorem NumN.next {w w' : World} {v : Value} {z : Int} (h : NumN w v z) (hb : Below w.heap.size w w') : NumN w' v z := by
  obtain ⟨q, m, c, h1, h2, h4, h3⟩ := h
  exact ⟨q, m, c, h1, h2, h4, h3.next hb⟩
theorem NumN.set2 {W : World} {b : Nat} {n : Bool} {p : Option Addr} {l c : Nat} {T : TypeId} {z : Int} {q : Option Addr} {m k : Nat} (hm : m ≤ k) (hq : q = none → k = 0) (h : Rd .u32 65536 W.heap.size W q m (digs 65536 z.natAbs)) (ht : Two W b (.bool n) (.slice p l c) T) (u v : Value) :
    NumN ((W.setCell ⟨b, 0, none⟩ u).setCell ⟨b, 1, none⟩ v) (.agg #[.bool (decide (z < 0)), .slice q m k]) z := ⟨q, m, k, rfl, hm, hq, (h.set2 ht u v).mono (by simp)⟩
set_option maxHeartbeats 1000000 in
theorem refNewN_any {B : Nat} (n : Bool) (q : Option Addr) (m c : Nat) (ds : List Nat) (w : World) (h : m ≤ c) (hl : m ≤ 4000000) (hR : Rd .u32 65536 B w q m ds) (hB : B ≤ w.heap.size) {x : Nat} (hx : val 65536 ds = x) (hn : q = none → c = 0) :
    Calls Tryz.prog 22 #[.bool n, .slice q m c] w (GivesNumN w (wv n x)) := by
  have HN := Lib.hid (wv_neg n x)
  have HX := Lib.hid hx
  obtain ⟨W0, hW0, hW, tZ⟩ := enter1 w (.bool false) (.slice none 0 0) 28
  replace hR := hR.below (hW.mono hB)
  clear hx
  go_enter Tryz.func22, Tryz.ntmps22
  go_wp2_with fail
  rw [← hW0]
  clear hW0
  refine (refTrim_val q m c ds W0 h hl hR).mono ?_
  rintro e w' ⟨m1, rfl, hm1, hR1, rfl⟩
  rw [HX.out] at hR1
  have HM := Lib.hid (digs_size_pos16 hR1.count)
  have t90 := tZ.c0; have t91 := tZ.c1; have t92 := tZ.f0; have t93 := tZ.f1
  have hR2 : Rd .u32 65536 W0.heap.size W0 q m1 (digs 65536 x) := hR1.mono (Nat.le_trans hB hW.size)
  cases n
  · have HF : Hid (decide (wv false x < 0) = false) := Lib.hid (by rw [HN.out]; rfl)
    have hr := (tZ.set0 (.bool false)).set1 (.slice q m1 c)
    have r0 := hr.c0
    have r1 := hr.c1
    go_wp2
    exact bodyPost_ret (v := .agg #[.bool false, .slice q m1 c]) (by simp [results, Tryz.results22, go_sem, r0, r1]) rfl
      ⟨_, rfl, by rw [← HF.out]; exact NumN.set2 (by omega) hn (by rw [wv_abs]; exact hR2) tZ _ _, below_set2 hW (by omega)⟩
  · have HF : Hid (decide (wv true x < 0) = decide (0 < m1)) := Lib.hid (by rw [HN.out, HM.out]; rfl)
    have hr := (tZ.set0 (.bool (decide (0 < m1)))).set1 (.slice q m1 c)
    have r0 := hr.c0
    have r1 := hr.c1
    go_wp2
    exact bodyPost_ret (v := .agg #[.bool (decide (0 < m1)), .slice q m1 c]) (by simp [results, Tryz.results22, go_sem, r0, r1]) rfl
      ⟨_, rfl, by rw [← HF.out]; exact NumN.set2 (by omega) hn (by rw [wv_abs]; exact hR2) tZ _ _, below_set2 hW (by omega)⟩

set_option maxHeartbeats 1000000 in
theorem refFromN_any (v : Value) (z : Int) (w : World) (hv : IntAt w v 900000 z) :
    Calls Tryz.prog 6 #[v] w (GivesNumN w z) := by
  obtain ⟨n, q, m, c, xs, rfl, h1, h2, hR, hz⟩ := hv
  obtain ⟨W0, hW0, hW, tA, tZ⟩ := enter2 w (.bool n) (.slice q m c) 24 (.bool false) (.slice none 0 0) 28
  replace hR := hR.next (kd hW)
  have tA0 := tA.c0; have tA1 := tA.c1
  have HZ : Hid (wv n (val W64 xs) = z) := Lib.hid hz
  have hs := (digs_length_le (β := 65536) (by omega) (val W64 xs) (4 * m)).2 (by rw [Nat.pow_mul, ← W64_four]; exact hR.val_lt W64_pos (Nat.le_refl _))
  clear hz
  go_enter Tryz.func6, Tryz.ntmps6
  go_wp2_with fail
  rw [← hW0]
  clear hW0
  go_region_held3 (fun w' => w'.cell? ⟨w.heap.size, 0, none⟩ = some (.bool n) ∧ w'.cell? ⟨w.heap.size, 1, none⟩ = some (.slice q m c))
    (((try go_split_ands); ((repeat' apply And.intro) <;> first | exact kdc (by assumption) | exact kp hb (by assumption) | exact ksc (ksc (by assumption) (by first | (simp; done) | (simp; omega))) (by first | (simp; done) | (simp; omega)))))
    (first
      | (go_at_call 23; refine (refDigits_any q m c xs _ h1 (by omega) hR (Nat.le_refl _)).mono ?_; rintro e W1 ⟨q1, m1, c1, rfl, hmc1, hn1, hR2, hb⟩; have tZ := tZ.drew.next hb; have hW := below_next (kd hW) hb)
      | (go_at_call 22; refine (refNewN_any n _ _ _ _ _ (hmc1) (by have := hR2.count; omega) hR2 (Nat.le_refl _) (val_digs (by omega) _) hn1).mono ?_; rintro e W9 ⟨v, rfl, ⟨q9, m9, c9, rfl, hm9, hn9, hR9⟩, hb⟩; have tZ := tZ.next hb; have hW := below_next hW hb; have t90 := tZ.c0; have t91 := tZ.c1; have t92 := tZ.f0; have t93 := tZ.f1))
  have hr := (tZ.set0 (.bool (decide (wv n (val W64 xs) < 0)))).set1 (.slice q9 m9 c9)
  have r0 := hr.c0
  have r1 := hr.c1
  go_wp2
  exact bodyPost_ret (v := .agg #[.bool (decide (wv n (val W64 xs) < 0)), .slice q9 m9 c9]) (by simp [results, Tryz.results6, go_sem, r0, r1]) rfl
    ⟨_, rfl, by rw [← HZ.out]; exact NumN.set2 hm9 hn9 hR9 tZ _ _, below_set2 hW (by omega)⟩

theorem textB_zero : textB 0 = [48] := by rw [textB_nonneg (by omega)]; exact dec_small (by decide)
set_option maxRecDepth 100000 in
set_option maxHeartbeats 2000000 in
theorem refText_zero (v : Value) (w : World) (hv : NumN w v 0) :
    Calls Tryz.prog 9 #[v] w fun e w' => e = .returned (.string ⟨(textB 0).toArray⟩) ∧ Below w.heap.size w w' := by
  rw [textB_zero]
  obtain ⟨q, m, c, rfl, h1, hq, hR⟩ := hv
  rw [show (0 : Int).natAbs = 0 from rfl, digs_zero] at hR
  obtain rfl : 0 = m := hR.count
  rw [decide_eq_false (show ¬ (0 : Int) < 0 by omega)]
  obtain ⟨W0, hW0, hW, tA⟩ := enter1 w (.bool false) (.slice q 0 c) 28
  replace hR := hR.next hW
  have tA0 := tA.c0; have tA1 := tA.c1
  go_enter Tryz.func9, Tryz.ntmps9
  go_upto_region 1 with fail
  rw [← hW0]
  clear hW0
  have hsz0 := hW.size
  have tA1a := kal (o := .cells #[] 75) tA1
  have tA1b : (W0.drew.alloc (.cells #[] 75)).cell? ⟨w.heap.size, 1, none⟩ = some (.slice q 0 c) := kal (W := W0.drew) tA1
  have tA1c : (W0.alloc (.cells #[] 75)).drew.cell? ⟨w.heap.size, 1, none⟩ = some (.slice q 0 c) := tA1a
  go_cut [3] from 8 to 12 (fun s3 wx => ∃ (g : Option Addr) (N : Nat), s3 = .slice g 0 N ∧ Below W0.heap.size W0 wx)
  case first =>
    go_wp2_with (at_builtin; refine wpl_append_nums Tryz.numTy32 rfl _ _ rfl W0.heap.size 0 (.slice (some ⟨W0.heap.size, 0, none⟩) 0 0) [] (by first | rfl | simp) (by first | exact owns_made_empty32 _ _ | exact owns_below (owns_made_empty32 _ _) (kd (Below.refl _ _)) (by simp)) q 0 c [] (by first | rfl | simp) (hR.below (by first | exact (Below.refl _ _).alloc (by simp) _ | exact kd ((Below.refl _ _).alloc (by simp) _) | exact (kd (Below.refl _ _)).alloc (by simp) _)) hq (by omega) (by omega) (by simp) ?_)
    intro p cap W1 hown hgrow
    have hb : Below W0.heap.size W0 W1 := ((Below.refl _ _).alloc (Nat.le_refl _) _).grown hgrow (by simp) (fun k hk => by simp [Value.ownBlock] at hk; omega)
    clear hown hgrow tA1a tA1b tA1c
    go_wp2
    go_meet
    exact ⟨p, cap, rfl, hb⟩
  case rest =>
    obtain ⟨g, N, rfl, hb⟩ := hcut
    replace hW := below_next hW hb
    clear tA tA0 tA1 tA1a tA1b tA1c hR hb h1 hq
    go_wp2_with fail
    go_loopw [3, 4] (fun s3 s4 wr => s3 = .slice g 0 N ∧ s4 = .string ⟨#[]⟩ ∧ Below w.heap.size w wr) (fun _ _ _ => 0)
    case atStart => exact ⟨rfl, rfl, hW⟩
    case round =>
      clear hW
      obtain ⟨rfl, rfl, hW⟩ := hrel
      go_wp2
      go_ret
      exact ⟨rfl, hW⟩
theorem refText_any (v : Value) (z : Int) (w : World) (hv : NumN w v z) (hl : (digs 65536 z.natAbs).length ≤ 100000) (hT : (Lib.decDigits z.natAbs).length ≤ 1000000000) :
    Calls Tryz.prog 9 #[v] w fun e w' => e = .returned (.string ⟨(textB z).toArray⟩) ∧ Below w.heap.size w w' := by
  by_cases h : z = 0
  · subst h; exact refText_zero v w hv
  · exact refText_pos v z w hv.num hl hT h
end Go.Proofs.YtndcaajebomkhaaGreatDoor
