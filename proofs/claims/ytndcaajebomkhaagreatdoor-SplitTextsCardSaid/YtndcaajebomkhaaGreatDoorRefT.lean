/- The reference's Text, digit by digit. -/
import Derived.Test.YtndcaajebomkhaaGreatDoorRefV
import Derived.Test.YtndcaajebomkhaaGreatDoorSplitA
import Derived.Test.YtndcaajebomkhaaGreatDoorDec
import Derived.Deep.LoopGhost
import Derived.Laws.IdiomStrings
namespace Go.Proofs.YtndcaajebomkhaaGreatDoor
open Go.RowKit

/-- The digits of a number, none for 0. -/
def decR (u : Nat) : List UInt8 := if u = 0 then [] else Lib.decDigits u
theorem decR_zero : decR 0 = [] := by unfold decR; rw [if_pos rfl]
theorem decR_pos {u : Nat} (h : 0 < u) : decR u = Lib.decDigits u := by unfold decR; rw [if_neg (by omega)]
theorem decR_step {u : Nat} (h : 0 < u) : decR u = decR (u / 10) ++ [UInt8.ofNat (48 + u % 10)] := by
  rw [decR_pos h, dec_last]; rfl
theorem up_cons32 {f' : Nat → Value} {k i v : Nat} {qs : List Nat} (hk : k = i + 1) (h : ∀ j, j < qs.length → f' (k + j) = .int .u32 ((nth qs j : Nat) : Int)) :
    ∀ j, j < (v :: qs).length → (fun j => if j = i then Value.int .u32 (v : Int) else f' j) (i + j) = .int .u32 ((nth (v :: qs) j : Nat) : Int) := by
  intro j hj
  cases j with
  | zero => simp [nth_cons_zero]
  | succ j =>
    have h1 : ¬ i + (j + 1) = i := by omega
    simp only [if_neg h1]
    rw [nth_cons_succ, show i + (j + 1) = k + j by omega]
    exact h j (by simpa using hj)
theorem owns_made_empty32 (w : World) (e : TypeId) : (w.alloc (.cells #[] e)).ownsRow w.heap.size e 1 (.slice (some ⟨w.heap.size, 0, none⟩) 0 0) 0 (ints .u32 []) :=
  World.ownsRow_made (base := w.heap.size) w #[] 0 (Nat.le_refl _) (by unfold maxLen; omega) rfl

/-- A string of one digit, made of a slice of one byte. -/
theorem str_cons (c : UInt8) (l : List UInt8) : (⟨#[c]⟩ : ByteArray) ++ ⟨l.toArray⟩ = ⟨(c :: l).toArray⟩ := by
  apply ByteArray.ext
  simp
theorem byte_text {P : Program} {ts t tb : TypeId} (hs : P.underlying tb = some (.slice t)) (he : P.underlying t = some (.int .u8)) (hd : P.underlying ts = some .string) (w : World) {d : Nat} (h : d < 10) :
    (convert tb ts (.slice (some ⟨w.heap.size, 0, none⟩) 1 1)).run P (w.alloc (.cells #[.int .u8 (48 + (d : Int))] t)) = .ok (.string ⟨#[UInt8.ofNat (48 + d)]⟩) (w.alloc (.cells #[.int .u8 (48 + (d : Int))] t)) := by
  refine run_convert_bytes_back _ tb ts t ⟨w.heap.size, 0, none⟩ 1 [UInt8.ofNat (48 + d)] hs he hd (fun j hj => ?_)
  obtain rfl : j = 0 := by simpa using hj
  rw [addr_add_lit, World.cell?_alloc_at _ _ _ _ rfl]
  simp only [List.getElem_cons_zero, dig_toNat h]
  simp

set_option maxRecDepth 100000 in
set_option maxHeartbeats 2000000 in
theorem refText_pos (v : Value) (z : Int) (w : World) (hv : NumAt w v z) (hl : (digs 65536 z.natAbs).length ≤ 100000) (hT : (Lib.decDigits z.natAbs).length ≤ 1000000000) (hz : z ≠ 0) :
    Calls Tryz.prog 9 #[v] w fun e w' => e = .returned (.string ⟨(textB z).toArray⟩) ∧ Below w.heap.size w w' := by
  obtain ⟨q, m, c, rfl, h1, hR⟩ := hv
  have hm : m ≤ 100000 := by have := hR.count; omega
  obtain ⟨x, hx⟩ : ∃ x, x = z.natAbs := ⟨_, rfl⟩
  have hx0 : 0 < x := by omega
  rw [← hx] at hR hT
  rw [← decR_pos hx0] at hT
  have HT := Lib.hid hT
  have HX0 := Lib.hid hx0
  have hm0 : 0 < m := by
    have h1 := (digs_top (β := 65536) (by omega) x hx0).1
    have h2 := hR.count
    omega
  obtain ⟨b, o, rfl, _, _⟩ := hR.cell 0 hm0
  have HTX : Hid (textB z = (if decide (z < 0) then [45] else []) ++ Lib.decDigits x) := Lib.hid (by unfold textB; rw [← hx]; simp)
  obtain ⟨n, hn⟩ : ∃ n, n = decide (z < 0) := ⟨_, rfl⟩
  rw [← hn] at HTX ⊢
  have HVX := Lib.hid (val_digs (β := 65536) (by omega) x)
  obtain ⟨xs, hxs⟩ : ∃ xs, xs = digs 65536 x := ⟨_, rfl⟩
  have HXS := Lib.hid hxs
  rw [← hxs] at hR HVX
  clear hxs hl hx hn hT
  obtain ⟨W0, hW0, hW, tA⟩ := enter1 w (.bool n) (.slice (some ⟨b, o, none⟩) m c) 28
  replace hR := hR.next hW
  have tA0 := tA.c0; have tA1 := tA.c1
  go_enter Tryz.func9, Tryz.ntmps9
  go_upto_region 1 with fail
  rw [← hW0]
  clear hW0
  have hsz0 := hW.size
  have tA1a := kal (o := .cells #[] 75) tA1
  have tA1b : (W0.drew.alloc (.cells #[] 75)).cell? ⟨w.heap.size, 1, none⟩ = some (.slice (some ⟨b, o, none⟩) m c) := kal (W := W0.drew) tA1
  have tA1c : (W0.alloc (.cells #[] 75)).drew.cell? ⟨w.heap.size, 1, none⟩ = some (.slice (some ⟨b, o, none⟩) m c) := tA1a
  go_cut [3] from 8 to 12 (fun s3 wx => ∃ g N f, s3 = .slice (some ⟨g, 0, none⟩) m N ∧ m ≤ N ∧ W0.heap.size ≤ g ∧ Row wx g 75 N f ∧ (∀ j, j < m → f j = .int .u32 ((nth xs j : Nat) : Int)) ∧ Below W0.heap.size W0 wx)
  case first =>
    go_wp2_with (at_builtin; refine wpl_append_nums Tryz.numTy32 rfl _ _ rfl W0.heap.size 0 (.slice (some ⟨W0.heap.size, 0, none⟩) 0 0) [] (by first | rfl | simp) (by first | exact owns_made_empty32 _ _ | exact owns_below (owns_made_empty32 _ _) (kd (Below.refl _ _)) (by simp)) (some ⟨b, o, none⟩) m c xs (by first | rfl | simp) (hR.below (by first | exact (Below.refl _ _).alloc (by simp) _ | exact kd ((Below.refl _ _).alloc (by simp) _) | exact (kd (Below.refl _ _)).alloc (by simp) _)) (fun h => by simp at h) (by omega) (by omega) (by simp) ?_)
    intro p cap W1 hown hgrow
    have hb : Below W0.heap.size W0 W1 := ((Below.refl _ _).alloc (Nat.le_refl _) _).grown hgrow (by simp) (fun k hk => by simp [Value.ownBlock] at hk; omega)
    obtain ⟨g, N, hq3, hg, _, _⟩ := owns_shape hown hm0
    simp only [Value.slice.injEq, true_and] at hq3
    obtain ⟨rfl, rfl⟩ := hq3
    obtain ⟨f, hrow, hf⟩ := owns_row hown
    have hroom := owns_room hown
    have hlen := hR.count
    have hfr : ∀ j, j < m → f j = .int .u32 ((nth xs j : Nat) : Int) := fun j hj => by
      have h2 := hf j hj
      rw [ints_at _ _ _ (by omega)] at h2
      exact Option.some.inj h2
    clear hown hgrow hf tA1a tA1b tA1c
    go_wp2
    go_meet
    exact ⟨g, cap, f, rfl, hroom, hg, hrow, hfr, hb⟩
  case rest =>
    obtain ⟨g, N, f, rfl, hmN, hg, hrow, hf, hb⟩ := hcut
    replace hW := below_next hW hb
    have tA' := tA.next hb
    have tA0' := tA'.c0
    have hxl := hR.count
    have hxw : ∀ j, j < m → nth xs j < 65536 := hR.word
    have hgw : w.heap.size ≤ g := by omega
    have hAg : w.heap.size ≠ g := by have := tA.lt; omega
    clear tA tA0 tA1 tA1a tA1b tA1c tA' hR hb h1
    go_wp2_with fail
    go_loopg [3, 4] x (fun gh s3 s4 wr => ∃ (m : Nat) (f : Nat → Value) (dl : List UInt8), s3 = .slice (some ⟨g, 0, none⟩) m N ∧ m ≤ N ∧ m ≤ 100000 ∧ Hid ((digs 65536 gh).length = m) ∧ Row wr g 75 N f ∧ Hid (∀ j, j < m → f j = .int .u32 ((nth (digs 65536 gh) j : Nat) : Int)) ∧
        s4 = .string ⟨dl.toArray⟩ ∧ Hid (decR gh ++ dl = decR x) ∧ wr.cell? ⟨w.heap.size, 0, none⟩ = some (.bool n) ∧ Below w.heap.size w wr)
    case atStart => exact ⟨m, f, [], rfl, hmN, hm, Lib.hid (by rw [← HXS.out]; exact hxl), hrow, Lib.hid (by rw [← HXS.out]; exact hf), rfl, Lib.hid (List.append_nil _), tA0', hW⟩
    case round =>
      clear hf hxw hxl hm0 hm hmN hrow tA0' hW HXS HVX
      obtain ⟨m, f, dl, rfl, hmN, hm, hml, hrow, hf, rfl, hdl, hA, hW⟩ := hrel
      by_cases hy : 0 < gk
      · have hm0 : 0 < m := by rw [← hml.out]; exact (digs_top (by omega) gk hy).1
        obtain ⟨ds, hds⟩ : ∃ ds, ds = digs 65536 gk := ⟨_, rfl⟩
        have HDV : Hid (val 65536 ds = gk) := Lib.hid (by rw [hds]; exact val_digs (by omega) _)
        have hdw : Hid (∀ j, nth ds j < 65536) := Lib.hid (by rw [hds]; exact fun j => digs_word (by omega) _ _)
        rw [← hds] at hml hf
        clear hds
        go_wp2_with fail
        go_loopw [5, 6] (fun sl sk wr => ∃ (k d : Nat) (qs : List Nat) (f' : Nat → Value), k ≤ m ∧ sk = .int .i64 ((k : Int) - 1) ∧ sl = .int .u32 (d : Int) ∧ d < 10 ∧ Hid (qs.length + k = m) ∧ Hid (∀ j, j < qs.length → nth qs j < 65536) ∧ Row wr g 75 N f' ∧
            Hid (∀ j, j < qs.length → f' (k + j) = .int .u32 ((nth qs j : Nat) : Int)) ∧ Hid (∀ j, j < k → f' j = .int .u32 ((nth ds j : Nat) : Int)) ∧ Hid (val 65536 (ds.drop k) = val 65536 qs * 10 + d) ∧ wr.cell? ⟨w.heap.size, 0, none⟩ = some (.bool n) ∧ Below w.heap.size w wr) (fun _ sk _ => (intOf sk + 1).toNat)
        case atStart => exact ⟨m, 0, [], f, Nat.le_refl _, rfl, rfl, by omega, Lib.hid (by simp), Lib.hid (fun i hi => by simp at hi), hrow, Lib.hid (fun i hi => by simp at hi), hf, Lib.hid (by rw [List.drop_of_length_le (by rw [hml.out]; exact Nat.le_refl _), val_nil]), hA, hW⟩
        case round =>
          clear hrow hf hA hW
          obtain ⟨k, d, qs, f', hk, rfl, rfl, hd, hql, hqw, hrow, hu, hlo, hv, hA, hW⟩ := hrel
          by_cases hlt : 0 < k
          · obtain ⟨i, hi⟩ : ∃ i, k = i + 1 := ⟨k - 1, by omega⟩
            subst hi
            have hiz : ((i + 1 : Nat) : Int) - 1 = (i : Int) := by omega
            rw [hiz]
            have hfi := hlo.out i (by omega)
            have hz := hdw.out i
            obtain ⟨z0, hez⟩ : ∃ z0, z0 = nth ds i := ⟨_, rfl⟩
            rw [← hez] at hfi hz
            obtain ⟨q, hq⟩ : ∃ q, q = (d * 65536 + z0) / 10 := ⟨_, rfl⟩
            obtain ⟨r, hrr⟩ : ∃ r, r = (d * 65536 + z0) % 10 := ⟨_, rfl⟩
            have hqz : ((d : Int) * 65536 + (z0 : Int)) / 10 = (q : Int) := by omega
            have hrz : ((d : Int) * 65536 + (z0 : Int)) % 10 = (r : Int) := by omega
            have H0 : r < 10 := by omega
            have H1 : q < 65536 := by omega
            have H2 : Hid (val 65536 (ds.drop i) = val 65536 (q :: qs) * 10 + r) := Lib.hid (by
              rw [val_cons]
              exact limb_quo hq hrr (by rw [hez]; exact val_drop_step ds i (by rw [hml.out]; omega)) hv.out)
            have H3 : Hid (∀ j, j < (q :: qs).length → nth (q :: qs) j < 65536) := Lib.hid (fun j hj => by
              cases j with
              | zero => rw [nth_cons_zero]; exact H1
              | succ j => rw [nth_cons_succ]; exact hqw.out j (by simpa using hj))
            have H4 := Lib.hid (up_cons32 (v := q) rfl hu.out)
            have H5 : Hid ((q :: qs).length + i = m) := Lib.hid (by have := hql.out; simp; omega)
            have H6 : Hid (∀ j, j < i → (fun j => if j = i then Value.int .u32 (q : Int) else f' j) j = .int .u32 ((nth ds j : Nat) : Int)) := Lib.hid (fun j hj => by
              have h1 : ¬ j = i := by omega
              simp only [if_neg h1]
              exact hlo.out j (by omega))
            have hfr := hrow.free i
            have hcl := hrow.cell i (by omega)
            rw [hfi] at hcl
            have H7 := hrow.set i (.int .u32 (q : Int))
            have hiz2 : (i : Int) < m := by omega
            have HA := Lib.hid (ksc (a := ⟨g, i, none⟩) (v := .int .u32 (q : Int)) hA (fun h => hAg h.symm))
            have HW2 := Lib.hid (ks (a := ⟨g, i, none⟩) (v := .int .u32 (q : Int)) hW hgw)
            clear hq hrr hez hv hqw hu hql hlo hfi hrow hA hW
            go_wp2
            go_roundw
            case rel => exact ⟨i, r, q :: qs, _, by omega, by go_num, by rw [hrz], H0, H5, H3, H7, H4, H6, H2, HA.out, HW2.out⟩
            case measure => simp [intOf] <;> omega
          · obtain rfl : k = 0 := by omega
            have hv0 := hv.out
            rw [List.drop_zero, HDV.out] at hv0
            obtain ⟨hQ, hRm⟩ := quo_rem_of (by omega) hv0 hd
            have hql0 : qs.length = m := by have := hql.out; omega
            have hrd : Rd .u32 65536 wr.heap.size wr (some ⟨g, 0, none⟩) m qs := hrow.rd 0 m _ hrow.lt (by omega) hql0 (fun i hi => hqw.out i (by omega)) (fun i hi => hu.out i (by omega))
            have hQR := Lib.hid (And.intro hQ hRm)
            have hcv := byte_text Tryz.underlying60 Tryz.underlying5 Tryz.underlying9 wr hd
            obtain ⟨c0, hc0⟩ : ∃ c0, c0 = UInt8.ofNat (48 + d) := ⟨_, rfl⟩
            rw [← hc0] at hcv
            have hdll : dl.length ≤ 1000000000 := by
              have h1 := congrArg List.length hdl.out
              have h2 := HT.out
              rw [List.length_append] at h1
              omega
            have HC0 := Lib.hid hc0
            have HND : Hid (decR (gk / 10) ++ (c0 :: dl) = decR x) := Lib.hid (by
              rw [← hdl.out, decR_step hy, hQR.out.2, hc0, List.append_assoc]; rfl)
            have hal : Below wr.heap.size wr (wr.alloc (.cells #[.int .u8 (48 + (d : Int))] 5)) := (Below.refl _ _).alloc (Nat.le_refl _) _
            obtain ⟨WA, hWA⟩ : ∃ WA, WA = wr.alloc (.cells #[.int .u8 (48 + (d : Int))] 5) := ⟨_, rfl⟩
            rw [← hWA] at hal
            have HWA := Lib.hid hWA
            have hrd2 := hrd.next hal
            have hrow2 := hrow.below hal hrow.lt
            have hA2 := kp hal hA
            have hW2 := below_next hW hal
            have hbd : ∀ i, i < m → nth qs i < 65536 := fun i hi => hqw.out i (by omega)
            have hQ1 := take_tl (β := 65536) (by omega) qs m (by omega) hbd
            have hQ2 := tl_length (β := 65536) (by omega) qs m (by omega) hbd
            have hQ3 : vl 65536 qs m = gk / 10 := by rw [hQR.out.1]; unfold val; rw [hql0]
            rw [hQ3] at hQ1 hQ2
            have HQ1 := Lib.hid hQ1
            have HQ2 := Lib.hid hQ2
            have HU := Lib.hid (fun j (hj : j < qs.length) => (congrArg f' (Nat.zero_add j)).symm.trans (hu.out j hj))
            have HQL := Lib.hid hql0
            have htl := tl_le qs m
            clear hQ1 hQ2 hQ3 hbd hQ hRm hv hv0 hql hlo hc0 hrd hWA hal hrow hA hW hu hqw hdl hql0
            go_wp2_with fail
            rw [← HWA.out]
            refine (refTrim_any (some ⟨g, 0, none⟩) m N qs WA hmN (by omega) hrd2).mono ?_
            rintro e w' ⟨rfl, rfl⟩
            go_wp2
            go_roundg (gk / 10)
            case measure => exact Nat.div_lt_self hy (by omega)
            case rel => exact ⟨tl qs m, f', c0 :: dl, rfl, by omega, by omega, Lib.hid HQ2.out.symm, hrow2, Lib.hid (fun j hj => by rw [HU.out j (by have := HQL.out; omega), ← HQ1.out, nth_take _ _ _ hj]), by rw [str_cons], HND, hA2, hW2⟩
      · obtain rfl : gk = 0 := by omega
        obtain rfl : m = 0 := by rw [← hml.out, digs_zero]; rfl
        have hdl2 : Hid (dl = Lib.decDigits x) := Lib.hid (by have := hdl.out; rwa [decR_zero, List.nil_append, decR_pos HX0.out] at this)
        have hpos : 0 < dl.length := by rw [hdl2.out]; exact dec_length_pos x
        have hdll : dl.length ≤ 1000000000 := by rw [hdl2.out, ← decR_pos HX0.out]; exact HT.out
        have hem : dl.isEmpty = false := by
          cases dl with
          | nil => simp at hpos
          | cons c r => rfl
        clear hdl hml hf hpos
        cases n with
        | true =>
          go_wp2
          go_ret
          exact ⟨by rw [HTX.out, ← hdl2.out, str_cons]; simp, hW⟩
        | false =>
          go_wp2
          go_ret
          exact ⟨by rw [HTX.out, ← hdl2.out]; simp, hW⟩
end Go.Proofs.YtndcaajebomkhaaGreatDoor
