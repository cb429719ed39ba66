/- Layer 3 (split): join of a row of digits. -/
import Derived.Test.YtndcaajebomkhaaGreatDoorPu
import Derived.Test.YtndcaajebomkhaaGreatDoorTextC
import Derived.Test.YtndcaajebomkhaaGreatDoorNatG
import Derived.Test.YtndcaajebomkhaaGreatDoorNatE
namespace Go.Proofs.YtndcaajebomkhaaGreatDoor
open Go.RowKit

theorem join_step {l1 l2 : List UInt8} {n : Nat} (hn : n ≤ l2.length) (h : l1 = [] ∨ n = 19) : decVal 0 l1 * P19 + decVal 0 (l2.take n) = decVal 0 (l1 ++ l2.take n) := by
  rw [decVal_append, decVal_shift (decVal 0 l1), List.length_take, Nat.min_eq_left hn]
  rcases h with rfl | rfl
  · rw [decVal_nil, Nat.zero_mul, Nat.zero_mul]
  · rw [P19_ten]
theorem digs_of_dec {x k m : Nat} (h : x < 10 ^ k) (hk : k ≤ 19 * m) : (digs W64 x).length ≤ m := by
  refine (digs_length_le two_le_W64 x m).2 (Nat.lt_of_lt_of_le h ?_)
  refine Nat.le_trans (pow_step hk) ?_
  rw [Nat.pow_mul, ← P19_ten]
  exact Nat.pow_le_pow_left (Nat.le_of_lt P19_lt) m
set_option maxRecDepth 100000 in
set_option maxHeartbeats 2000000 in
theorem join_any (l : List UInt8) (w : World) (hd : ∀ c ∈ l, isDig c) (hl : l.length ≤ 400) :
    Calls Tryz.prog 33 #[.string ⟨l.toArray⟩] w fun e w' => ∃ q m c, e = .returned (.slice q m c) ∧ m ≤ c ∧ (q = none → c = 0) ∧ Rd .u64 W64 w'.heap.size w' q m (digs W64 (decVal 0 l)) ∧ Below w.heap.size w w' := by
  have HD := Lib.hid hd
  clear hd
  go_enter Tryz.func33, Tryz.ntmps33
  go_wp2_with fail
  go_loopg [0, 3] l.length (fun gh s0 s3 wr => ∃ (l1 l2 : List UInt8) (q : Option Addr) (m c : Nat), s0 = .string ⟨l2.toArray⟩ ∧ l2.length = gh ∧ Hid (l = l1 ++ l2) ∧ Hid (l1 = [] ∨ l2.length % 19 = 0) ∧ s3 = .slice q m c ∧ m ≤ c ∧ (q = none → c = 0) ∧ Rd .u64 W64 wr.heap.size wr q m (digs W64 (decVal 0 l1)) ∧ gh ≤ 400 ∧ Below w.heap.size w wr)
  case atStart => exact ⟨[], l, none, 0, 0, rfl, rfl, Lib.hid rfl, Lib.hid (Or.inl rfl), rfl, Nat.le_refl _, fun _ => rfl, by rw [decVal_nil, digs_zero]; exact Rd.nil _ _ _ _ _, hl, Below.refl _ _⟩
  case round =>
    obtain ⟨l1, l2, q, m, c, rfl, hl2, hcat, h19, rfl, hmc, hq, hR, hg, hW⟩ := hrel
    by_cases h0 : 0 < gk
    · obtain ⟨g, rfl⟩ : ∃ g, gk = g + 1 := ⟨gk - 1, by omega⟩
      have hsz : (⟨l2.toArray⟩ : ByteArray).size = g + 1 := by rw [← hl2]; simp [ByteArray.size]
      obtain ⟨s, hs⟩ : ∃ s : ByteArray, s = ⟨l2.toArray⟩ := ⟨_, rfl⟩
      rw [← hs] at hsz ⊢
      obtain ⟨n, hn⟩ : ∃ n, n = g % 19 + 1 := ⟨_, rfl⟩
      have hnz : (g : Int) % 19 + 1 = (n : Int) := by omega
      have hnt : (g : Int).tmod 19 + 1 = (n : Int) := by rw [Int.tmod_eq_emod_of_nonneg (by omega)]; exact hnz
      have hn19 : n ≤ 19 := by omega
      have hn1 : 1 ≤ n := by omega
      have hng : n ≤ g + 1 := by omega
      have hext : Hid (s.extract 0 n = ⟨(l2.take n).toArray⟩) := Lib.hid (by rw [hs]; apply ByteArray.ext; simp [ByteArray.data_extract])
      have hexr : Hid (s.extract n (g + 1) = ⟨(l2.drop n).toArray⟩) := Lib.hid (by rw [hs]; apply ByteArray.ext; simp [ByteArray.data_extract]; exact List.take_of_length_le (by rw [List.length_drop, hl2]; exact Nat.le_refl _))
      have hdt : ∀ c ∈ l2.take n, isDig c := fun c hc => HD.out c (by rw [hcat.out]; exact List.mem_append_right _ (List.mem_of_mem_take hc))
      have HPU := fun w => parseUint_any (l2.take n) w hdt (by rw [List.length_take, hl2]; omega) (by rw [List.length_take, hl2]; omega)
      have HPH := Lib.hid HPU
      have HS := Lib.hid hs
      have HN := Lib.hid hn
      clear hs hn hdt HPU
      have hl1d : ∀ c ∈ l1, isDig c := fun c hc => HD.out c (by rw [hcat.out]; exact List.mem_append_left _ hc)
      have hll : l1.length + (g + 1) = l.length := by rw [hcat.out, List.length_append, hl2]
      have hlim : (digs W64 (decVal 0 l1)).length ≤ 22 := digs_of_dec (decVal_lt (k := 0) 0 l1 hl1d (by simp)) (by omega)
      have hm22 : m ≤ 22 := by have := hR.count; omega
      obtain ⟨y, hy⟩ : ∃ y, y = decVal 0 (l2.take n) := ⟨_, rfl⟩
      have hyP : y < W64 := by
        have h1 := decVal_lt (k := 0) 0 (l2.take n) (fun c hc => HD.out c (by rw [hcat.out]; exact List.mem_append_right _ (List.mem_of_mem_take hc))) (by simp)
        rw [← hy] at h1
        refine Nat.lt_trans (Nat.lt_of_lt_of_le h1 (pow_step (m := 19) (by rw [List.length_take]; omega))) ?_
        rw [← P19_ten]; exact P19_lt
      rw [← hy] at HPH
      have hnew : Hid (decVal 0 l1 * P19 + y = decVal 0 (l1 ++ l2.take n)) := Lib.hid (by
        rw [hy]
        refine join_step (by omega) ?_
        rcases h19.out with h | h
        · exact Or.inl h
        · right; rw [HN.out]; rw [hl2] at h; omega)
      have hcat2 : Hid (l = (l1 ++ l2.take n) ++ l2.drop n) := Lib.hid (by rw [List.append_assoc, List.take_append_drop]; exact hcat.out)
      have h192 : Hid (l1 ++ l2.take n = [] ∨ (l2.drop n).length % 19 = 0) := Lib.hid (by right; rw [List.length_drop, hl2, HN.out]; omega)
      have hprod : (digs W64 (decVal 0 l1 * P19)).length ≤ 23 := by
        refine digs_of_dec (k := l1.length + 19) ?_ (by omega)
        have h1 := decVal_lt (k := 0) 0 l1 hl1d (by simp)
        rw [Nat.zero_add] at h1
        rw [Nat.pow_add, ← P19_ten]
        exact Nat.mul_lt_mul_of_pos_right h1 P19_pos
      have hl22 : (l2.drop n).length = g + 1 - n := by rw [List.length_drop, hl2]
      have HYP := Lib.hid hyP
      have HLIM := Lib.hid hlim
      obtain ⟨x, hx⟩ : ∃ x, x = decVal 0 l1 := ⟨_, rfl⟩
      rw [← hx] at hR hnew HLIM hprod
      have HPR := Lib.hid hprod
      have HP1 := Lib.hid P19_lt
      clear hl1d hy hyP hlim hx hcat h19 hprod
      go_wp2_with fail
      rw [hext.out]
      refine (HPH.out wr).mono ?_
      rintro e W1 ⟨rfl, hb⟩
      replace hR := hR.next hb
      replace hW := below_next hW hb
      clear hb HPH hext
      go_wp2_with fail
      have hal : Below W1.heap.size W1 (W1.alloc (.cells #[.int .u64 10000000000000000000] 53)) := (Below.refl _ _).alloc (Nat.le_refl _) _
      have hs1 := single_rd (W := W1) (k := .u64) (β := W64) (T := 53) (x := P19) (z := 10000000000000000000) HP1.out (by unfold P19; rfl)
      obtain ⟨W2, hW2⟩ : ∃ W2, W2 = W1.alloc (.cells #[.int .u64 10000000000000000000] 53) := ⟨_, rfl⟩
      have hsz2 : W2.heap.size = W1.heap.size + 1 := by rw [hW2]; simp
      rw [← hW2] at hal hs1 ⊢
      clear hW2
      refine (natMul_any q _ m 1 c 1 _ [P19] W2 hmc (Nat.le_refl _) (by omega) (by omega) (hR.next hal) hs1 (Nat.le_refl _) (by omega) (by
        rw [val_digs two_le_W64, val_single]
        have h1 := HLIM.out
        have h2 := digs_small_len HP1.out
        omega)).mono ?_
      rw [val_digs two_le_W64, val_single]
      rintro e W3 ⟨q3, m3, c3, rfl, hm3, hq3, hR3, hb⟩
      replace hW := below_next (below_next hW hal) hb
      clear hal hs1 hR hb hsz2
      have hm23 : m3 ≤ 23 := by have := hR3.count; have := HPR.out; omega
      go_wp2_with fail
      have hal : Below W3.heap.size W3 (W3.alloc (.cells #[.int .u64 (y : Int)] 53)) := (Below.refl _ _).alloc (Nat.le_refl _) _
      have hs1 := single_rd (W := W3) (k := .u64) (β := W64) (T := 53) (x := y) HYP.out rfl
      obtain ⟨W4, hW4⟩ : ∃ W4, W4 = W3.alloc (.cells #[.int .u64 (y : Int)] 53) := ⟨_, rfl⟩
      have hsz4 : W4.heap.size = W3.heap.size + 1 := by rw [hW4]; simp
      rw [← hW4] at hal hs1 ⊢
      clear hW4
      refine (natAdd_any q3 _ m3 1 c3 1 _ [y] W4 hm3 (Nat.le_refl _) (by omega) (by omega) (hR3.next hal) hs1 (Nat.le_refl _) (by omega)).mono ?_
      rw [val_digs two_le_W64, val_single, hnew.out]
      rintro e W5 ⟨q5, m5, c5, rfl, hm5, hq5, hR5, hb⟩
      replace hW := below_next (below_next hW hal) hb
      clear hal hs1 hR3 hb hsz4 hm23
      go_wp2
      go_roundg (g + 1 - n)
      case measure => omega
      case rel => exact ⟨l1 ++ l2.take n, l2.drop n, q5, m5, c5, by rw [hexr.out], hl22, hcat2, h192, rfl, hm5, hq5, hR5, by omega, hW⟩
    · obtain rfl : gk = 0 := by omega
      obtain rfl : l2 = [] := List.eq_nil_of_length_eq_zero hl2
      have he : Hid (l = l1) := Lib.hid (by rw [hcat.out, List.append_nil])
      clear hcat h19
      go_wp2
      go_ret
      exact ⟨q, m, c, rfl, hmc, hq, by rw [he.out]; exact hR, hW⟩
end Go.Proofs.YtndcaajebomkhaaGreatDoor
