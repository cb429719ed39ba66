/- Layer 3 (split): Parse of any text. -/
import Derived.Test.YtndcaajebomkhaaGreatDoorJoin
import Derived.Test.YtndcaajebomkhaaGreatDoorPfx
import Derived.Test.YtndcaajebomkhaaGreatDoorTextE
import Derived.Test.YtndcaajebomkhaaGreatDoorInt
namespace Go.Proofs.YtndcaajebomkhaaGreatDoor
open Go.RowKit

/-- A text's digits: what stands behind its sign. -/
def digsOf (l : List UInt8) : List UInt8 := Lib.trimPrefix l [45]
/-- Digits that a number has, written as a number's are. -/
def okText (l : List UInt8) : Prop := (Lib.hasPrefix (digsOf l) [48] = false ∨ l = [48]) ∧ 0 < (digsOf l).length ∧ ∀ c ∈ digsOf l, isDig c
theorem digsOf_length (l : List UInt8) : (digsOf l).length ≤ l.length := by
  unfold digsOf Lib.trimPrefix
  split
  · simp
  · exact Nat.le_refl _

set_option maxRecDepth 100000 in
set_option maxHeartbeats 2000000 in
theorem parse_yes (l : List UInt8) (w : World) (hl : l.length ≤ 400) (hok : okText l) :
    Calls Tryz.prog 8 #[.string ⟨l.toArray⟩] w fun e w' => ∃ q m c, e = .returned (.tuple #[.agg #[.bool (Lib.hasPrefix l [45]), .slice q m c], .nilIface]) ∧ m ≤ c ∧ (q = none → c = 0) ∧ Rd .u64 W64 w'.heap.size w' q m (digs W64 (decVal 0 (digsOf l))) ∧ Below w.heap.size w w' := by
  obtain ⟨hn, h0, hd⟩ := hok
  have hdl := Nat.le_trans (digsOf_length l) hl
  have HC := Lib.hid (cutMinus_any l)
  have HH := Lib.hid (hasNought_any (digsOf l))
  have HA := Lib.hid (fun w => digitsAlone_any (digsOf l) w (by omega))
  have HJ := Lib.hid (fun w => join_any (digsOf l) w hd hdl)
  have hda : decide (0 < (digsOf l).length ∧ ∀ c ∈ digsOf l, isDig c) = true := decide_eq_true ⟨h0, hd⟩
  rw [hda] at HA
  have e1 : Lib.trimPrefix l [45] = digsOf l := rfl
  rw [e1] at HC
  clear hda e1 h0 hd hdl
  obtain ⟨ds, hds⟩ : ∃ ds, ds = digsOf l := ⟨_, rfl⟩
  rw [← hds] at HC HH HA HJ hn ⊢
  clear hds
  obtain ⟨neg, hneg⟩ : ∃ neg, neg = Lib.hasPrefix l [45] := ⟨_, rfl⟩
  rw [← hneg] at HC ⊢
  clear hneg
  obtain ⟨hp, hhp⟩ : ∃ hp, hp = Lib.hasPrefix ds [48] := ⟨_, rfl⟩
  rw [← hhp] at HH hn
  clear hhp
  obtain ⟨s, hs⟩ : ∃ s : ByteArray, s = ⟨l.toArray⟩ := ⟨_, rfl⟩
  have hsz : s.size = l.length := by rw [hs]; simp [ByteArray.size]
  have hnn : hp = false ∨ s = ⟨#[48]⟩ := hn.imp id (fun h => by rw [hs, h])
  rw [← hs] at HC ⊢
  obtain ⟨n, hnl⟩ : ∃ n, n = l.length := ⟨_, rfl⟩
  rw [← hnl] at hsz hl
  clear hs hnl hn
  go_enter Tryz.func8, Tryz.ntmps8
  go_wp2_with fail
  refine (HC.out _).mono ?_
  rintro e w' ⟨rfl, rfl⟩
  have hal : Below w.heap.size w (w.alloc (.cells #[.bool false, .slice none 0 0] 24)) := (Below.refl _ _).alloc (Nat.le_refl _) _
  have tZ := Two.new w (.bool false) (.slice none 0 0) 24
  obtain ⟨W0, hW0⟩ : ∃ W0, W0 = w.alloc (.cells #[.bool false, .slice none 0 0] 24) := ⟨_, rfl⟩
  rw [← hW0] at hal tZ
  have HW0 := Lib.hid hW0
  clear hW0
  rcases hnn with rfl | rfl
  all_goals
    go_wp2_with (first
      | (go_at_call 31; refine (HH.out _).mono ?_; rintro e w' ⟨rfl, rfl⟩)
      | (go_at_call 32; refine (HA.out _).mono ?_; rintro e w' ⟨rfl, rfl⟩))
  all_goals
    rw [← HW0.out]
    refine (HJ.out W0).mono ?_
    rintro e W1 ⟨q, m, c, rfl, hmc, hq, hR, hb⟩
    have tZ1 := tZ.next hb
    have hW := below_next hal hb
    have hf0 := tZ1.f0
    have hf1 := tZ1.f1
    have hc0 := tZ1.c0
    have hc1 := tZ1.c1
    have hr := (tZ1.set0 (.bool neg)).set1 (.slice q m c)
    have r0 := hr.c0
    have r1 := hr.c1
    have hR2 := (hR.set2 tZ1 (.bool neg) (.slice q m c))
    have hW2 := below_set2 (u := .bool neg) (v := .slice q m c) hW (Nat.le_refl _)
    go_wp2
    exact bodyPost_ret (v := .tuple #[.agg #[.bool neg, .slice q m c], .nilIface]) (by simp [results, Tryz.results8, go_sem, r0, r1]) rfl ⟨_, _, _, rfl, hmc, hq, hR2.mono (by simp), hW2⟩
set_option maxRecDepth 100000 in
set_option maxHeartbeats 2000000 in
theorem parse_no (l : List UInt8) (w : World) (hl : l.length ≤ 400) (hno : ¬ okText l) :
    Calls Tryz.prog 8 #[.string ⟨l.toArray⟩] w fun e w' => e = .returned (.tuple #[.agg #[.bool false, .slice none 0 0], .iface 73 (.int .i64 4)]) ∧ Below w.heap.size w w' := by
  have hdl := Nat.le_trans (digsOf_length l) hl
  have HC := Lib.hid (cutMinus_any l)
  have HH := Lib.hid (hasNought_any (digsOf l))
  have HA := Lib.hid (fun w => digitsAlone_any (digsOf l) w (by omega))
  have e1 : Lib.trimPrefix l [45] = digsOf l := rfl
  rw [e1] at HC
  have hcase : (Lib.hasPrefix (digsOf l) [48] = true ∧ l ≠ [48]) ∨ ((Lib.hasPrefix (digsOf l) [48] = false ∨ l = [48]) ∧ decide (0 < (digsOf l).length ∧ ∀ c ∈ digsOf l, isDig c) = false) := by
    unfold okText at hno
    by_cases h1 : Lib.hasPrefix (digsOf l) [48] = false ∨ l = [48]
    · exact Or.inr ⟨h1, decide_eq_false (fun h => hno ⟨h1, h⟩)⟩
    · exact Or.inl ⟨by cases h : Lib.hasPrefix (digsOf l) [48] with
        | true => rfl
        | false => exact absurd (Or.inl h) h1, fun h => h1 (Or.inr h)⟩
  obtain ⟨da, hda⟩ : ∃ da, da = decide (0 < (digsOf l).length ∧ ∀ c ∈ digsOf l, isDig c) := ⟨_, rfl⟩
  rw [← hda] at HA hcase
  clear e1 hno hda hdl
  obtain ⟨ds, hds⟩ : ∃ ds, ds = digsOf l := ⟨_, rfl⟩
  rw [← hds] at HC HH HA hcase
  clear hds
  obtain ⟨neg, hneg⟩ : ∃ neg, neg = Lib.hasPrefix l [45] := ⟨_, rfl⟩
  rw [← hneg] at HC
  clear hneg
  obtain ⟨hp, hhp⟩ : ∃ hp, hp = Lib.hasPrefix ds [48] := ⟨_, rfl⟩
  rw [← hhp] at HH hcase
  clear hhp
  obtain ⟨s, hs⟩ : ∃ s : ByteArray, s = ⟨l.toArray⟩ := ⟨_, rfl⟩
  have hsz : s.size = l.length := by rw [hs]; simp [ByteArray.size]
  have hcs : (hp = true ∧ (s.toList == [48]) = false) ∨ ((hp = false ∨ s = ⟨#[48]⟩) ∧ da = false) :=
    hcase.imp (fun h => ⟨h.1, by
      rw [hs]
      simp
      exact h.2⟩) (fun h => ⟨h.1.imp id (fun e => by rw [hs, e]), h.2⟩)
  rw [← hs] at HC ⊢
  obtain ⟨n, hnl⟩ : ∃ n, n = l.length := ⟨_, rfl⟩
  rw [← hnl] at hsz hl
  clear hs hnl hcase
  go_enter Tryz.func8, Tryz.ntmps8
  go_wp2_with fail
  refine (HC.out _).mono ?_
  rintro e w' ⟨rfl, rfl⟩
  have hal : Below w.heap.size w (w.alloc (.cells #[.bool false, .slice none 0 0] 24)) := (Below.refl _ _).alloc (Nat.le_refl _) _
  have tZ := Two.new w (.bool false) (.slice none 0 0) 24
  obtain ⟨W0, hW0⟩ : ∃ W0, W0 = w.alloc (.cells #[.bool false, .slice none 0 0] 24) := ⟨_, rfl⟩
  rw [← hW0] at hal tZ ⊢
  clear hW0
  have hf0 := tZ.f0
  have hf1 := tZ.f1
  have hc0 := tZ.c0
  have hc1 := tZ.c1
  have hr := (tZ.set0 (.bool false)).set1 (.slice none 0 0)
  have r0 := hr.c0
  have r1 := hr.c1
  have hW2 := below_set2 (u := .bool false) (v := .slice none 0 0) hal (Nat.le_refl _)
  rcases hcs with ⟨rfl, hne⟩ | ⟨rfl | rfl, rfl⟩
  · go_wp2_with (first
      | (go_at_call 31; refine (HH.out _).mono ?_; rintro e w' ⟨rfl, rfl⟩)
      | (go_at_call 32; refine (HA.out _).mono ?_; rintro e w' ⟨rfl, rfl⟩))
    all_goals exact bodyPost_ret (v := .tuple #[.agg #[.bool false, .slice none 0 0], .iface 73 (.int .i64 4)]) (by simp [results, Tryz.results8, go_sem, r0, r1]) rfl ⟨rfl, hW2⟩
  all_goals
    go_wp2_with (first
      | (go_at_call 31; refine (HH.out _).mono ?_; rintro e w' ⟨rfl, rfl⟩)
      | (go_at_call 32; refine (HA.out _).mono ?_; rintro e w' ⟨rfl, rfl⟩))
    all_goals exact bodyPost_ret (v := .tuple #[.agg #[.bool false, .slice none 0 0], .iface 73 (.int .i64 4)]) (by simp [results, Tryz.results8, go_sem, r0, r1]) rfl ⟨rfl, hW2⟩
end Go.Proofs.YtndcaajebomkhaaGreatDoor
