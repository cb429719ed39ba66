/- Layer 4 (ratio): Text of a right ratio whose Den isn't 1. -/
import Derived.Test.YtndcaajebomkhaaGreatDoorRatA
import Derived.Test.YtndcaajebomkhaaGreatDoorTextD
namespace Go.Proofs.YtndcaajebomkhaaGreatDoor
open Go.RowKit

theorem str_over (x y : List UInt8) : (⟨x.toArray⟩ : ByteArray) ++ ⟨#[47]⟩ ++ ⟨y.toArray⟩ = ⟨(x ++ 47 :: y).toArray⟩ := by
  apply ByteArray.ext
  simp
set_option maxRecDepth 100000 in
set_option maxHeartbeats 2000000 in
theorem ratioText_over (v : Value) (z d : Int) (w : World) (hv : RatAt w v z d) (hd : 1 < d) (hg : Nat.gcd z.natAbs d.natAbs = 1) (hl : (digs W64 z.natAbs).length ≤ 1024) (hl' : (digs W64 d.natAbs).length ≤ 1024)
    (kz : (textB z).length ≤ 1000000) (kd : (textB d).length ≤ 1000000) (hT : TabVar w) (hP : PowVar w) :
    Calls Tryz.prog 41 #[v] w fun e w' => e = .returned (.tuple #[.string ⟨(textB z ++ 47 :: textB d).toArray⟩, .nilIface]) ∧ Below w.heap.size w w' := by
  obtain ⟨q, m, c, q', m', c', rfl, h1, h2, hR, hR', pA, pB⟩ := hv.parts
  obtain ⟨W0, hW0, hW, tA⟩ := enterF w (.bool (decide (z < 0))) (.slice q m c) (.bool (decide (d < 0))) (.slice q' m' c') 44
  have km := hR.count
  have km' := hR'.count
  have hm : m ≤ 1024 := by omega
  have hm' : m' ≤ 1024 := by omega
  replace hR := hR.next hW
  replace hR' := hR'.next hW
  replace hv := hv.next hW
  replace hT := hT.below hW
  replace hP := hP.below hW
  have HG := Lib.hid hg
  have HL := Lib.hid hl
  have HL' := Lib.hid hl'
  have HKZ := Lib.hid kz
  have HKD := Lib.hid kd
  have HD1 : Hid (false = decide (d.natAbs = 1)) := Lib.hid (by rw [decide_eq_false]; omega)
  have HDP : Hid (0 < d) := Lib.hid (by omega)
  have HZ : Hid (wv (decide (z < 0)) (val W64 (digs W64 z.natAbs)) = z) := Lib.hid (by rw [val_digs two_le_W64, wv_self])
  have HD : Hid (wv (decide (d < 0)) (val W64 (digs W64 d.natAbs)) = d) := Lib.hid (by rw [val_digs two_le_W64, wv_self])
  obtain ⟨n, hn⟩ : ∃ n, n = decide (z < 0) := ⟨_, rfl⟩
  obtain ⟨n', hn'⟩ : ∃ n', n' = decide (d < 0) := ⟨_, rfl⟩
  rw [← hn] at tA hW0 hv HZ ⊢
  rw [← hn'] at tA hW0 hv HD ⊢
  have c0 := tA.c0; have c1 := tA.c1; have c2 := tA.c2; have c3 := tA.c3
  clear hg hl hl' kz kd hn hn' km km' hd pA pB
  go_enter Tryz.func41, Tryz.ntmps41
  go_wp2_with fail
  rw [← hW0]
  clear hW0
  refine (ratioRight_yes _ z d W0 hv HDP.out HG.out HL.out HL'.out hT).mono ?_
  rintro e w1 ⟨rfl, hb⟩
  replace hR := hR.next hb
  replace hR' := hR'.next hb
  replace hP := hP.below hb
  replace tA := tA.next hb
  replace hW := below_next hW hb
  clear hb c0 c1 c2 c3 hv hT
  have c0 := tA.c0; have c1 := tA.c1; have c2 := tA.c2; have c3 := tA.c3
  go_wp2_with fail
  refine (text_any n q m c _ w1 h1 (by omega) hR hP HZ.out).mono ?_
  rintro e w2 ⟨rfl, hb⟩
  replace hR' := hR'.next hb
  replace hP := hP.below hb
  replace tA := tA.next hb
  replace hW := below_next hW hb
  clear hb c0 c1 c2 c3 hR
  have c0 := tA.c0; have c1 := tA.c1; have c2 := tA.c2; have c3 := tA.c3
  go_wp2_with fail
  refine (isOne_any q' m' c' _ w2 h2 (by omega) hR' false HD1.out).mono ?_
  rintro e w3 ⟨rfl, hb⟩
  replace hR' := hR'.next hb
  replace hP := hP.below hb
  replace tA := tA.next hb
  replace hW := below_next hW hb
  clear hb c0 c1 c2 c3
  have c0 := tA.c0; have c1 := tA.c1; have c2 := tA.c2; have c3 := tA.c3
  go_wp2_with fail
  refine (text_any n' q' m' c' _ w3 h2 (by omega) hR' hP HD.out).mono ?_
  rintro e w4 ⟨rfl, hb⟩
  replace hW := below_next hW hb
  clear hb c0 c1 c2 c3 hR' hP tA
  have hz1 := HKZ.out
  have hd1 := HKD.out
  go_wp2
  go_ret2
  exact ⟨by rw [str_over]; rfl, hW⟩
end Go.Proofs.YtndcaajebomkhaaGreatDoor
