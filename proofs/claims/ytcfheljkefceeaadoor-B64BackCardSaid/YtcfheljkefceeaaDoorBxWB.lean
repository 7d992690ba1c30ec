/- What is coded is decoded; what is decoded is coded so. -/
import Derived.Test.YtcfheljkefceeaaDoorBxAw
set_option linter.unusedSimpArgs false
set_option linter.unusedVariables false
namespace Go.Proofs.YtcfheljkefceeaaDoor
open Go.ChangeShapes Go.WideShapes Go.ChangeAt Go.RowKit
open Bx
set_option maxRecDepth 100000 in
set_option maxHeartbeats 8000000 in
theorem back13_walk (v : Value) (l : B) (s : B) (w : World) (hB : BRd v l w) (hd : l.length ≤ maxLen) (hd2 : s.length ≤ maxLen) (hE : Env w) : Calls Tryd.prog 5 #[v, sV s] w fun e w' => e = .returned (.bool true) ∧ Kept w w' := by
  unfold maxLen at hd hd2
  have hss : (ByteArray.mk s.toArray).size = s.length := List.size_toArray
  obtain ⟨g, c, hv⟩ := hB.slice
  subst hv
  have HB := Lib.hid hB
  have HEN := Lib.hid hE
  clear hB
  go_enter Tryd.func5, Tryd.ntmps5
  go_wp2_with fail
  refine (awake13_any w hE).mono ?_
  rintro e x1 ⟨rfl, k1⟩
  have K1 := Lib.hid k1
  clear k1
  clear hE
  by_cases hs : 600 < (l.length : Int)
  · go_wp2
    go_ret
    exact ⟨rfl, K1.out⟩
  by_cases hs2 : 600 < (s.length : Int)
  · go_wp2
    go_ret
    exact ⟨rfl, K1.out⟩
  have hl : l.length ≤ 600 := by omega
  have hl2 : s.length ≤ 600 := by omega
  have hrl := raw_le l
  have hel := enc_le l
  go_wp2_with fail
  refine (raw_any _ l x1 (HB.out.kept K1.out) (by omega)).mono ?_
  rintro e x2 ⟨rfl, k2⟩
  have K2 := Lib.hid (K1.out.trans k2)
  clear k2 K1
  go_wp2_with fail
  refine (bytes_any (raw l) x2 (by omega)).mono ?_
  rintro e x3 ⟨xv, rfl, ⟨av, hO, rfl⟩, k3⟩
  rw [bE_some (byt_raw l)]
  rw [byt_raw l, show (some l).getD [] = l from rfl] at hO
  have K3 := Lib.hid (K2.out.trans k3)
  have R3 := Lib.hid hO.rd
  obtain ⟨a3, c3, hv3⟩ := own_slice hO
  subst hv3
  clear hO k3 K2
  go_wp2_with fail
  refine (encode_any _ l x3 (HB.out.kept K3.out) (by omega)).mono ?_
  rintro e x4 ⟨ev, rfl, hO, k4⟩
  have K4 := Lib.hid (K3.out.trans k4)
  have R4 := Lib.hid (R3.out.kept k4)
  have E4 := Lib.hid hO.rd
  have N4 := Lib.hid (HEN.out.kept K4.out)
  obtain ⟨a4, c4, hv4⟩ := own_slice hO
  subst hv4
  clear hO k4 K3 R3
  go_wp2_with fail
  refine (decode_any _ (enc l) x4 E4.out N4.out (by omega)).mono ?_
  rintro e x5 ⟨xv, rfl, ⟨bv, hO, rfl⟩, k5⟩
  rw [dE_some (dec_enc l)]
  rw [dec_enc l, show (some l).getD [] = l from rfl] at hO
  have K5 := Lib.hid (K4.out.trans k5)
  have hc1 := (R4.out.kept k5).conv
  have hc2 := hO.rd.conv
  have hc3 := (HB.out.kept K5.out).conv
  obtain ⟨a5, c5, hv5⟩ := own_slice hO
  subst hv5
  clear hO k5 K4 R4 E4 N4 hrl hel
  go_wp2_with fail
  clear hc1 hc2 hc3
  refine (bytes_any s x5 (by omega)).mono ?_
  rintro e x6 ⟨xv, rfl, ⟨cv, hO, rfl⟩, k6⟩
  have K6 := Lib.hid (K5.out.trans k6)
  clear k6 K5
  cases h : byt s with
  | none =>
    rw [bE_none h]
    rw [h, show (none : Option B).getD [] = [] from rfl] at hO
    obtain ⟨a6, c6, hv6⟩ := own_slice hO
    subst hv6
    clear hO h
    go_wp2
    go_ret
    exact ⟨rfl, K6.out⟩
  | some z =>
    have hzl := byt_len h
    have HZ := Lib.hid (byt_back h)
    rw [bE_some h]
    rw [h, show (some z).getD [] = z from rfl] at hO
    have R6 := Lib.hid hO.rd
    obtain ⟨a6, c6, hv6⟩ := own_slice hO
    subst hv6
    clear hO h
    go_wp2_with fail
    refine (raw_any _ z x6 R6.out (by omega)).mono ?_
    rintro e x7 ⟨rfl, k7⟩
    rw [HZ.out]
    have K7 := Lib.hid (K6.out.trans k7)
    clear k7 K6
    go_wp2
    go_ret
    exact ⟨rfl, K7.out⟩
end Go.Proofs.YtcfheljkefceeaaDoor
