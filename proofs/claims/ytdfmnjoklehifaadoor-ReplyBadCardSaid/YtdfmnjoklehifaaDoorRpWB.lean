/- The law ReplyBad, walked. -/
import Derived.Test.YtdfmnjoklehifaaDoorRpAw
set_option linter.unusedSimpArgs false
set_option linter.unusedVariables false
namespace Go.Proofs.YtdfmnjoklehifaaDoor.Bk.Rp
open Go.ChangeShapes Go.WideShapes Go.ChangeAt Go.RowKit Go.Shelf
theorem left_new (a : B) : left (run 0 [] a).1 ≤ a.length := by
  have h := (run_back _ a (Nat.le_refl _) 0 [] (okS_nil _)).2
  cases hr : (run 0 [] a).1 with
  | none => simp [left]
  | some s =>
    obtain ⟨⟨_, _, h1⟩, _, _, h2⟩ := h s hr
    have h3 := congrArg List.length h2
    rw [show pend 0 [] = [] from rfl, List.nil_append, List.length_append, List.length_append] at h3
    simp only [left]
    by_cases hne : s.2.1 = []
    · rw [hne]; simp only [sumL]; omega
    · have := pend_len (h1 hne) s.2.1
      omega
set_option maxRecDepth 100000 in
set_option maxHeartbeats 8000000 in
theorem bad17_walk (v0 : Value) (a : B) (v1 : Value) (b : B) (w : World) (hE : EX w) (hA : BRd v0 a w) (hB : BRd v1 b w) : Calls Tryd.prog 6 #[v0, v1] w fun e w' => e = .returned (.bool true) ∧ Kept w w' := by
  have HE := Lib.hid hE
  have HW := Lib.hid (awake_any w hE)
  obtain ⟨aa, ac, rfl⟩ := hA.slice
  obtain ⟨ba, bc, rfl⟩ := hB.slice
  have HA := Lib.hid hA
  have HB := Lib.hid hB
  clear hE hA hB
  by_cases hl : 1000 < a.length
  · have hlI : (1000 : Int) < a.length := by omega
    go_enter Tryd.func6, Tryd.ntmps6
    go_wp2_with fail
    refine HW.out.mono ?_
    rintro e y ⟨rfl, k⟩
    have K := Lib.hid k
    clear k
    go_wp2
    go_ret
    exact ⟨rfl, K.out⟩
  · by_cases hm : 1000 < b.length
    · have hlI : ¬ (1000 : Int) < a.length := by omega
      have hmI : (1000 : Int) < b.length := by omega
      go_enter Tryd.func6, Tryd.ntmps6
      go_wp2_with fail
      refine HW.out.mono ?_
      rintro e y ⟨rfl, k⟩
      have K := Lib.hid k
      clear k
      go_wp2
      go_ret
      exact ⟨rfl, K.out⟩
    · have hlI : ¬ (1000 : Int) < a.length := by omega
      have hmI : ¬ (1000 : Int) < b.length := by omega
      have hsz : 8 ≤ w.heap.size := HE.out.b0
      have HOK := Lib.hid (okO_put okO_new a)
      have HLE := Lib.hid (left_new a)
      have HPA := Lib.hid (fun D b w hS hR hE h8 => put_o D b (some (0, [], [])) a (.slice aa a.length ac) w hS hR hE h8 okO_new (by omega))
      have HPB := Lib.hid (fun D b' w hS hR hE h8 => put_o D b' none b (.slice ba b.length bc) w hS hR hE h8 trivial (by omega))
      rw [show put (some (0, [], [])) a = run 0 [] a from rfl] at HOK HPA
      generalize run 0 [] a = O at *
      obtain ⟨o, ol⟩ := O
      go_enter Tryd.func6, Tryd.ntmps6
      go_wp2_with fail
      refine HW.out.mono ?_
      rintro e w1 ⟨rfl, k1⟩
      have K1 := Lib.hid k1
      clear k1 HW
      go_wp2_with fail
      refine (bad_nil w1).mono ?_
      rintro e w2 ⟨rfl, rfl⟩
      go_wp2_with fail
      refine (left_nil w1).mono ?_
      rintro e w2 ⟨rfl, rfl⟩
      go_wp2_with fail
      refine (put_nil (.slice aa a.length ac) w1 rfl).mono ?_
      rintro e w2 ⟨rfl, k2⟩
      have K2 := Lib.hid (K1.out.trans k2)
      clear k2 K1
      go_wp2_with fail
      refine (new_any w2).mono ?_
      rintro e w3 ⟨rfl, hr, k3, hz3⟩
      have S3 := Lib.hid (RS.new hr hz3)
      have K3 := Lib.hid (K2.out.trans k3)
      have h8 : 8 ≤ w2.heap.size := Nat.le_trans hsz K2.out.size
      have hle2 : w.heap.size ≤ w2.heap.size := K2.out.size
      generalize w2.heap.size = rb at *
      clear hr k3 hz3 K2
      go_wp2_with fail
      refine (HPA.out _ _ w3 S3.out (HA.out.kept K3.out) (HE.out.kept K3.out) h8).mono ?_
      rintro e w4 ⟨v, D', rfl, hD, hU, hS4, hBo, _⟩
      have K4 := Lib.hid (K3.out.bo hBo (by omega) hle2)
      have S4 := Lib.hid hS4
      clear hU hS4 hBo S3 K3
      go_wp2_with fail
      refine (bad_o _ _ _ w4 S4.out).mono ?_
      rintro e w5 ⟨rfl, rfl⟩
      cases o with
      | some s =>
        go_wp2_with fail
        refine (left_o _ _ _ w4 S4.out HOK.out).mono ?_
        rintro e w5 ⟨rfl, rfl⟩
        have hle : ((left (some s) : Nat) : Int) ≤ a.length := by have := HLE.out; omega
        go_wp2_with fail
        go_ret
        exact ⟨rfl, K4.out⟩
      | none =>
        go_wp2_with fail
        refine (left_o _ _ _ w4 S4.out HOK.out).mono ?_
        rintro e w5 ⟨rfl, rfl⟩
        go_wp2_with fail
        refine (HPB.out _ _ w4 S4.out (HB.out.kept K4.out) (HE.out.kept K4.out) h8).mono ?_
        rintro e w5 ⟨v5, D5, rfl, hD5, hU5, hS5, hBo5, _⟩
        have K5 := Lib.hid (K4.out.bo hBo5 (by omega) hle2)
        obtain ⟨xa, xc, rfl⟩ := hU5.rd.slice
        have S5 := Lib.hid hS5
        clear hU5 hS5 hBo5 S4 K4
        go_wp2_with fail
        refine (bad_o _ _ _ w5 S5.out).mono ?_
        rintro e w6 ⟨rfl, rfl⟩
        go_wp2_with fail
        refine (left_o _ _ _ w5 S5.out trivial).mono ?_
        rintro e w6 ⟨rfl, rfl⟩
        go_wp2_with fail
        go_ret
        exact ⟨rfl, K5.out⟩
end Go.Proofs.YtdfmnjoklehifaaDoor.Bk.Rp
