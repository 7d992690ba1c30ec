/- The law XmlWrites, walked. -/
import Derived.Test.YtknggeplnffegaaGreatDoorXmW
import Derived.Test.YtknggeplnffegaaGreatDoorXwB
import Derived.Test.YtknggeplnffegaaGreatDoorXwF
set_option linter.unusedVariables false
namespace Go.Proofs.YtknggeplnffegaaGreatDoor
open Go.ChangeShapes Go.WideShapes Go.ChangeAt Go.RowKit
open En Xm
theorem small_few {l : List Tk} (h : Fw 200 l) : SmallL l := small_fw h (by omega)
set_option maxRecDepth 100000 in
set_option maxHeartbeats 4000000 in
theorem writes8_walk (v : Value) (l : List Tk) (v' : Value) (m : List Tk) (s : B) (w : World) (h : TkRd v l w) (hl : l.length ≤ maxLen) (h' : TkRd v' m w) (hm : m.length ≤ maxLen) (hs : s.length ≤ maxLen) (hE : EX w.heap.size w) :
    Calls Tryz.prog 4 #[v, v', .string ⟨s.toArray⟩] w fun e w' => e = .returned (.bool true) ∧ Kept w w' := by
  have HL := Lib.hid hl; have HM := Lib.hid hm
  clear hl hm
  unfold maxLen at hs
  obtain ⟨a, c, hv⟩ := h.slice
  obtain ⟨a', c', hv'⟩ := h'.slice
  subst hv hv'
  have H := Lib.hid h; have H' := Lib.hid h'; have HE := Lib.hid hE
  clear h h' hE
  go_enter Tryz.func4, Tryz.ntmps4
  go_wp2_with fail
  refine (awake8_any w HE.out).mono ?_
  rintro e x1 ⟨rfl, k1⟩
  have K1 := Lib.hid k1
  clear k1
  go_wp2_with fail
  refine (few_any _ l x1 (H.out.kept K1.out) HL.out).mono ?_
  rintro e x2 ⟨b1, rfl, k2, hb1⟩
  have K2 := Lib.hid (K1.out.trans k2)
  have B1 := Lib.hid hb1
  clear k2 hb1 K1
  go_wp2_with fail
  refine (few_any _ m x2 (H'.out.kept K2.out) HM.out).mono ?_
  rintro e x3 ⟨b2, rfl, k3, hb2⟩
  have K3 := Lib.hid (K2.out.trans k3)
  have B2 := Lib.hid hb2
  clear k3 hb2 K2
  cases b1 with
  | false =>
    go_wp2
    go_ret
    exact ⟨rfl, K3.out⟩
  | true =>
  cases b2 with
  | false =>
    go_wp2
    go_ret
    exact ⟨rfl, K3.out⟩
  | true =>
  by_cases hs2 : 200 < (s.length : Int)
  · go_wp2
    go_ret
    exact ⟨rfl, K3.out⟩
  have FL := Lib.hid (B1.out rfl); have FM := Lib.hid (B2.out rfl)
  have AL := Lib.hid (Fw.at FL.out (by omega)); have AM := Lib.hid (Fw.at FM.out (by omega))
  have hsl : s.length ≤ 200 := by omega
  clear B1 B2
  go_wp2_with fail
  refine (write_any _ l x3 (H.out.kept K3.out) (small_few FL.out) ((HE.out.kept K3.out).mono K3.out.size)).mono ?_
  rintro e x4 ⟨k4, v4, rfl, hv4⟩
  obtain ⟨a4, c4, hv4'⟩ := hv4.slice
  subst hv4'
  have K4 := Lib.hid (K3.out.trans k4)
  have R4 := Lib.hid hv4
  clear k4 hv4 K3
  go_wp2_with fail
  refine (rwrite_any _ l x4 (H.out.kept K4.out) (small_few FL.out)).mono ?_
  rintro e x5 ⟨k5, v5, rfl, hv5⟩
  obtain ⟨a5, c5, hv5'⟩ := hv5.slice
  subst hv5'
  have K5 := Lib.hid (K4.out.trans k5)
  have R5 := Lib.hid (R4.out.kept k5)
  have S5 := Lib.hid hv5
  clear k5 hv5 K4 R4
  go_wp2_with fail
  refine (rname_any s x5 (by omega)).mono ?_
  rintro e x6 ⟨rfl, rfl⟩
  go_wp2_with fail
  refine (rsame_any _ _ l m x5 (H.out.kept K5.out) (H'.out.kept K5.out) AL.out.1 AM.out.1 AL.out.2).mono ?_
  rintro e x6 ⟨rfl, k6⟩
  have K6 := Lib.hid (K5.out.trans k6)
  have cv1 := (R5.out.kept k6).conv
  have cv2 := (S5.out.kept k6).conv
  clear k6 R5 S5 K5
  generalize (wri l).1 = W1 at *
  generalize (wri l).2 = W2 at *
  go_wp2_with fail
  refine (pname_any s x6 (by omega)).mono ?_
  rintro e x7 ⟨rfl, rfl⟩
  clear cv1 cv2
  go_wp2_with fail
  refine (plocal_any s x6 (by omega)).mono ?_
  rintro e x7 ⟨rfl, rfl⟩
  go_wp2_with fail
  refine (rlocal_any s x6 (by omega)).mono ?_
  rintro e x7 ⟨rfl, rfl⟩
  go_wp2_with fail
  refine (psame_any _ _ l m x6 (H.out.kept K6.out) (H'.out.kept K6.out) AL.out.1 AM.out.1 AL.out.2 AM.out.2).mono ?_
  rintro e x7 ⟨rfl, k7⟩
  have K7 := Lib.hid (K6.out.trans k7)
  clear k7 K6
  generalize decide (l = m) = q at *
  go_wp2
  go_ret
  exact ⟨rfl, K7.out⟩
end Go.Proofs.YtknggeplnffegaaGreatDoor
