import Derived.Test.YtjlpkgipdkjfhaaGreatDoorDc
import Derived.Test.YtjlpkgipdkjfhaaGreatDoorDgRb
import Derived.Test.YtjlpkgipdkjfhaaGreatDoorDgFw
set_option linter.unusedSimpArgs false
set_option linter.unusedVariables false
namespace Go.Proofs.YtjlpkgipdkjfhaaGreatDoor.Bk.Dg
open Go.ChangeShapes Go.WideShapes Go.ChangeAt Go.RowKit Go.Shelf
open Go.Proofs.YtjlpkgipdkjfhaaGreatDoor.Dg
set_option maxRecDepth 100000 in
set_option maxHeartbeats 4000000 in
theorem builds16_walk (rcp : B) (sub no t o : Int) (v : Value) (l : List It) (w : World) (hE : EX w) (hA : ItA v l w) (t0 : -9223372036854775808 ≤ t) (t1 : t ≤ 9223372036854775807) :
    Calls Tryz.prog 3 #[sV rcp, iV sub, iV no, iV t, iV o, v] w fun e w' => e = .returned (.bool true) ∧ Kept w w' := by
  have hsz : (ByteArray.mk rcp.toArray).size = rcp.length := List.size_toArray
  have HE := Lib.hid hE
  have HW := Lib.hid (awake16_any w hE)
  have HR := Lib.hid hA.rd
  have HF := Lib.hid (fun w hR => few_any v l 12 w hR (by omega) hA.n hA.b)
  obtain ⟨va, vc, rfl⟩ := hA.rd.slice
  clear hE
  cases hf : fwB l 12 with
  | false =>
    rw [hf] at HF
    clear hf hA
    go_enter Tryz.func3, Tryz.ntmps3
    go_wp2_with fail
    refine HW.out.mono ?_
    rintro e y ⟨rfl, k⟩
    go_wp2_with fail
    refine (HF.out _ (HR.out.kept k)).mono ?_
    rintro e y2 ⟨rfl, k2⟩
    have K := Lib.hid (k.trans k2)
    clear k k2
    go_wp2
    go_ret
    exact ⟨rfl, K.out⟩
  | true =>
    have hFw := fwB_iff.1 hf
    rw [hf] at HF
    by_cases hl : (100 : Int) < rcp.length
    · clear hf hA
      go_enter Tryz.func3, Tryz.ntmps3
      go_wp2_with fail
      refine HW.out.mono ?_
      rintro e y ⟨rfl, k⟩
      go_wp2_with fail
      refine (HF.out _ (HR.out.kept k)).mono ?_
      rintro e y2 ⟨rfl, k2⟩
      have K := Lib.hid (k.trans k2)
      clear k k2
      go_wp2
      go_ret
      exact ⟨rfl, K.out⟩
    · have hS := hFw.sm (by omega)
      have HB := Lib.hid (fun w hR hE => build_any rcp sub no t o (.slice va l.length vc) l w hR hE hS (by omega) t0 t1)
      have HC := Lib.hid (fun w hR => rbuild_any rcp sub no t o (.slice va l.length vc) l w hR hFw (by omega))
      have HT := Lib.hid (fun w hR hE => text_any (.slice va l.length vc) l w hR hE hS)
      have HH := Lib.hid (fun w hR hE => html_any (.slice va l.length vc) l w hR hE hS)
      have HT2 := Lib.hid (fun w hR => rtext_any (.slice va l.length vc) l w hR 12 hFw (by omega))
      have HH2 := Lib.hid (fun w hR => rhtml_any (.slice va l.length vc) l w hR 12 hFw (by omega))
      generalize bldR rcp sub no t o l = R at *
      generalize txt l = tx at *
      generalize htm l = ht at *
      obtain ⟨r1, r2⟩ := R
      clear hf hA hFw hS t0 t1
      go_enter Tryz.func3, Tryz.ntmps3
      go_wp2_with fail
      refine HW.out.mono ?_
      rintro e y ⟨rfl, k⟩
      go_wp2_with fail
      refine (HF.out _ (HR.out.kept k)).mono ?_
      rintro e y2 ⟨rfl, k2⟩
      have K2 := Lib.hid (k.trans k2)
      clear k k2
      go_wp2_with fail
      refine (HB.out _ (HR.out.kept K2.out) (HE.out.kept K2.out)).mono ?_
      rintro e y3 ⟨xa, rfl, ra, k3⟩
      have K3 := Lib.hid (K2.out.trans k3)
      have RA := Lib.hid ra
      clear k3 ra
      go_wp2_with fail
      refine (HC.out _ (HR.out.kept K3.out)).mono ?_
      rintro e y4 ⟨xb, rfl, rb, k4⟩
      have K4 := Lib.hid (K3.out.trans k4)
      have cv1 := (RA.out.kept k4).conv
      have cv2 := rb.conv
      obtain ⟨a1, c1, rfl⟩ := RA.out.slice
      obtain ⟨a2, c2, rfl⟩ := rb.slice
      clear k4 rb RA
      simp only at cv1 cv2
      go_wp2_with fail
      refine (HT.out _ (HR.out.kept K4.out) (HE.out.kept K4.out).p).mono ?_
      rintro e y5 ⟨rfl, k5⟩
      have K5 := Lib.hid (K4.out.trans k5)
      clear k5 cv1 cv2
      go_wp2_with fail
      refine (HT2.out _ (HR.out.kept K5.out)).mono ?_
      rintro e y6 ⟨rfl, k6⟩
      have K6 := Lib.hid (K5.out.trans k6)
      clear k6
      go_wp2_with fail
      refine (HH.out _ (HR.out.kept K6.out) (HE.out.kept K6.out).p).mono ?_
      rintro e y7 ⟨rfl, k7⟩
      have K7 := Lib.hid (K6.out.trans k7)
      clear k7
      go_wp2_with fail
      refine (HH2.out _ (HR.out.kept K7.out)).mono ?_
      rintro e y8 ⟨rfl, k8⟩
      have K8 := Lib.hid (K7.out.trans k8)
      clear k8
      go_wp2
      go_ret
      exact ⟨rfl, K8.out⟩
end Go.Proofs.YtjlpkgipdkjfhaaGreatDoor.Bk.Dg
