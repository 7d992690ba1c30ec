/- The law XmlTokens, walked. -/
import Derived.Test.YtknggeplnffegaaGreatDoorXwB
import Derived.Test.YtknggeplnffegaaGreatDoorXmX
set_option linter.unusedVariables false
namespace Go.Proofs.YtknggeplnffegaaGreatDoor
open Go.ChangeShapes Go.WideShapes Go.ChangeAt Go.RowKit
open En Xm
set_option maxRecDepth 100000 in
set_option maxHeartbeats 4000000 in
theorem tokens8_walk (v : Value) (doc : B) (w : World) (hB : BRd v doc w) (hd : doc.length ≤ maxLen) (hE : EX w.heap.size w) : Calls Tryz.prog 3 #[v] w fun e w' => e = .returned (.bool true) ∧ Kept w w' := by
  unfold maxLen at hd
  obtain ⟨g, c, hv⟩ := hB.slice
  subst hv
  have HB := Lib.hid hB; have HE := Lib.hid hE
  clear hB hE
  go_enter Tryz.func3, Tryz.ntmps3
  go_wp2_with fail
  refine (awake8_any w HE.out).mono ?_
  rintro e x1 ⟨rfl, k1⟩
  have K1 := Lib.hid k1
  clear k1
  by_cases hs : 2000 < (doc.length : Int)
  · go_wp2
    go_ret
    exact ⟨rfl, K1.out⟩
  have hl : doc.length ≤ 2000 := by omega
  go_wp2_with fail
  refine (ptokens_any g doc.length c doc x1 ((HE.out.kept K1.out).mono K1.out.size) rfl (fun _ => (HB.out.kept K1.out).conv)).mono ?_
  rintro e x2 ⟨k2, v2, rfl, hT⟩
  have K2 := Lib.hid (K1.out.trans k2)
  have T2 := Lib.hid hT.rd
  obtain ⟨a2, c2, hv2⟩ := hT.rd.slice
  subst hv2
  clear k2 hT
  go_wp2_with fail
  refine (rtokens_any g c doc x2 (fun _ => (HB.out.kept K2.out).conv)).mono ?_
  rintro e x3 ⟨k3, v3, rfl, hT⟩
  have K3 := Lib.hid (K2.out.trans k3)
  have T3 := Lib.hid (T2.out.kept k3)
  have R3 := Lib.hid hT.rd
  obtain ⟨a3, c3, hv3⟩ := hT.rd.slice
  subst hv3
  clear k3 hT
  have F := (Fw.at (tok_fw doc) (by omega))
  generalize tok doc = d at *
  go_wp2_with fail
  refine (rsame_any _ _ d.1 d.1 x3 T3.out R3.out F.1 F.1 F.2).mono ?_
  rintro e x4 ⟨rfl, k4⟩
  rw [decide_eq_true rfl]
  have K4 := Lib.hid (K3.out.trans k4)
  clear k4 F T2 T3 R3 HB
  go_wp2
  go_ret
  exact ⟨rfl, K4.out⟩
end Go.Proofs.YtknggeplnffegaaGreatDoor
