/- Layer 3 (split): digitsAlone of any text. -/
import Derived.Test.YtndcaajebomkhaaGreatDoorDec
import Derived.Test.YtndcaajebomkhaaGreatDoorSplitA
namespace Go.Proofs.YtndcaajebomkhaaGreatDoor
open Go.RowKit

theorem byte_at (l : List UInt8) (i : Nat) (h : i < l.length) : (⟨l.toArray⟩ : ByteArray).data[i]? = some l[i] := by simp [h]
instance (c : UInt8) : Decidable (isDig c) := by unfold isDig; infer_instance
theorem digs_all {l : List UInt8} {n : Nat} (hn : n = l.length) (h : ∀ j, j < n → 48 ≤ nth (l.map UInt8.toNat) j ∧ nth (l.map UInt8.toNat) j ≤ 57) : ∀ c ∈ l, isDig c := by
  intro c hc
  obtain ⟨i, hi, rfl⟩ := List.getElem_of_mem hc
  have h2 := h i (by omega)
  rw [nth_lt _ _ (by simpa using hi)] at h2
  simpa [isDig] using h2
theorem digs_not {l : List UInt8} {k c : Nat} (hk : k < l.length) (hc : c = nth (l.map UInt8.toNat) k) (h : ¬ (48 ≤ c ∧ c ≤ 57)) : ¬ ∀ c ∈ l, isDig c := by
  intro h2
  have h3 := h2 l[k] (by simp)
  rw [nth_lt _ _ (by simpa using hk)] at hc
  simp at hc
  subst hc
  exact h h3
set_option maxRecDepth 100000 in
set_option maxHeartbeats 1000000 in
theorem digitsAlone_any (l : List UInt8) (w : World) (hl : l.length ≤ 1000000) :
    Calls Tryz.prog 32 #[.string ⟨l.toArray⟩] w fun e w' => e = .returned (.bool (decide (0 < l.length ∧ ∀ c ∈ l, isDig c))) ∧ w = w' := by
  obtain ⟨s, hs⟩ : ∃ s : ByteArray, s = ⟨l.toArray⟩ := ⟨_, rfl⟩
  have hsz : s.size = l.length := by rw [hs]; simp [ByteArray.size]
  have hget : Hid (∀ i (h : i < s.size), (s[i]'h).toNat = nth (l.map UInt8.toNat) i) := Lib.hid (fun i h => by
    have h2 : i < l.length := by omega
    subst hs
    rw [nth_lt _ _ (by simpa using h2)]
    simp [ByteArray.getElem_eq_getElem_data])
  rw [← hs]
  obtain ⟨n, hn⟩ : ∃ n, n = l.length := ⟨_, rfl⟩
  rw [← hn] at hsz hl ⊢
  have HN := Lib.hid hn
  clear hs hn
  go_enter Tryz.func32, Tryz.ntmps32
  go_wp2_with fail
  refine wp_scope_jumps 0 (fun _ _ => False) (fun _ _ => 0) rfl ?_ ?_
  · go_wp2_with fail
    go_step3
    go_wp2_with fail
    go_loopw [3, 7] (fun s3 s7 wr => ∃ k : Nat, k ≤ n ∧ s3 = .int .i64 (k : Int) ∧ s7 = .int .i64 (k : Int) ∧ Hid (∀ j, j < k → 48 ≤ nth (l.map UInt8.toNat) j ∧ nth (l.map UInt8.toNat) j ≤ 57) ∧ w = wr) (fun _ s7 _ => (n - (intOf s7).toNat))
    case atStart => exact ⟨0, Nat.zero_le _, rfl, rfl, Lib.hid (fun j hj => by omega), rfl⟩
    case round =>
      obtain ⟨k, hk, rfl, rfl, hd, rfl⟩ := hrel
      by_cases hlt : k < n
      · have hg := hget.out k (by omega)
        obtain ⟨c, hc⟩ : ∃ c, c = nth (l.map UInt8.toNat) k := ⟨_, rfl⟩
        rw [← hc] at hg
        have hltz : (k : Int) < n := by omega
        have HC := Lib.hid hc
        clear hc
        by_cases h1 : 48 ≤ c
        · have h1z : (48 : Int) ≤ c := by omega
          by_cases h2 : c ≤ 57
          · have h2z : (c : Int) ≤ 57 := by omega
            have HD : Hid (∀ j, j < k + 1 → 48 ≤ nth (l.map UInt8.toNat) j ∧ nth (l.map UInt8.toNat) j ≤ 57) := Lib.hid (fun j hj => by
              by_cases e : j = k
              · subst e; rw [← HC.out]; exact ⟨h1, h2⟩
              · exact hd.out j (by omega))
            clear hd
            go_wp2
            go_roundw
            case rel => exact ⟨k + 1, by omega, by go_num, by go_num, HD, (by first | rfl | trivial)⟩
            case measure => simp [intOf] <;> omega
          · have h2z : ¬ (c : Int) ≤ 57 := by omega
            have hF : Hid (decide (0 < n ∧ ∀ c ∈ l, isDig c) = false) := Lib.hid (decide_eq_false (fun h => digs_not (by have := HN.out; omega) HC.out (by omega) h.2))
            have hkn : ((k : Int) == (n : Int)) = false := by simp; omega
            go_wp2
            all_goals (simp only [Exit.jump]; go_ret)
            all_goals exact ⟨by first | (rw [hF.out]; done) | (rw [hF.out]; rfl) | (rw [hF.out, ← hkn]; rfl), rfl⟩
        · have h1z : ¬ (48 : Int) ≤ c := by omega
          have hF : Hid (decide (0 < n ∧ ∀ c ∈ l, isDig c) = false) := Lib.hid (decide_eq_false (fun h => digs_not (by have := HN.out; omega) HC.out (by omega) h.2))
          have hkn : ((k : Int) == (n : Int)) = false := by simp; omega
          go_wp2
          all_goals (simp only [Exit.jump]; go_ret)
          all_goals exact ⟨by first | (rw [hF.out]; done) | (rw [hF.out]; rfl) | (rw [hF.out, ← hkn]; rfl), rfl⟩
      · obtain rfl : k = n := by omega
        have hall := digs_all HN.out hd.out
        have HA := Lib.hid hall
        clear hall hd
        by_cases h0 : 0 < k
        · have h0z : (0 : Int) < k := by omega
          go_wp2
          all_goals (simp only [Exit.jump]; go_ret)
          all_goals exact ⟨by rw [decide_eq_true ⟨h0, HA.out⟩]; first | rfl | simp [go_sem], rfl⟩
        · have h0z : ¬ (0 : Int) < k := by omega
          go_wp2
          all_goals (simp only [Exit.jump]; go_ret)
          all_goals exact ⟨by rw [decide_eq_false (fun h => h0 h.1)]; first | rfl | simp [go_sem], rfl⟩
  · intro a' w' h
    exact h.elim
end Go.Proofs.YtndcaajebomkhaaGreatDoor
