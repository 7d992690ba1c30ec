import Derived.Test.YtjlpkgipdkjfhaaGreatDoorDc
import Derived.Test.YtjlpkgipdkjfhaaGreatDoorDgRa
set_option linter.unusedSimpArgs false
set_option linter.unusedVariables false
namespace Go.Proofs.YtjlpkgipdkjfhaaGreatDoor.Bk.Dg
open Go.ChangeShapes Go.WideShapes Go.ChangeAt Go.RowKit Go.Shelf
open Go.Proofs.YtjlpkgipdkjfhaaGreatDoor.Dg
set_option maxRecDepth 100000 in
set_option maxHeartbeats 4000000 in
theorem ids16_walk (sub no : Int) (s : B) (w : World) (hE : EX w) : Calls Tryz.prog 4 #[iV sub, iV no, sV s] w fun e w' => e = .returned (.bool true) ∧ Kept w w' := by
  have hsz : (ByteArray.mk s.toArray).size = s.length := List.size_toArray
  have HE := Lib.hid hE
  have HW := Lib.hid (awake16_any w hE)
  clear hE
  by_cases hl : (100 : Int) < s.length
  · go_enter Tryz.func4, Tryz.ntmps4
    go_wp2_with fail
    refine HW.out.mono ?_
    rintro e y ⟨rfl, k⟩
    have K := Lib.hid k
    clear k
    go_wp2
    go_ret
    exact ⟨rfl, K.out⟩
  · have HI := Lib.hid (fun w hE => id_any sub no w hE)
    have HR := Lib.hid (fun w => rid_any sub no w)
    have HP := Lib.hid (fun w hE => parse_any s w hE (by omega))
    have HQ := Lib.hid (fun w => rparse_any s w (by omega))
    generalize idR sub no = r at *
    generalize psR s = p at *
    obtain ⟨r1, r2⟩ := r
    obtain ⟨p1, p2, p3⟩ := p
    simp only at HI HR HP HQ
    go_enter Tryz.func4, Tryz.ntmps4
    go_wp2_with fail
    refine HW.out.mono ?_
    rintro e y ⟨rfl, k⟩
    go_wp2_with fail
    refine (HI.out _ (HE.out.kept k)).mono ?_
    rintro e y2 ⟨rfl, k2⟩
    have K2 := Lib.hid (k.trans k2)
    clear k k2
    go_wp2_with fail
    refine (HR.out _).mono ?_
    rintro e y3 ⟨rfl, rfl⟩
    go_wp2_with fail
    refine (HP.out _ (HE.out.kept K2.out)).mono ?_
    rintro e y4 ⟨rfl, k4⟩
    have K4 := Lib.hid (K2.out.trans k4)
    clear k4
    go_wp2_with fail
    refine (HQ.out _).mono ?_
    rintro e y5 ⟨rfl, rfl⟩
    go_wp2
    go_ret
    exact ⟨rfl, K4.out⟩
set_option maxRecDepth 100000 in
set_option maxHeartbeats 4000000 in
theorem only16_walk (a b c d : Int) (w : World) (hE : EX w) : Calls Tryz.prog 5 #[iV a, iV b, iV c, iV d] w fun e w' => e = .returned (.bool true) ∧ Kept w w' := by
  have HE := Lib.hid hE
  have HW := Lib.hid (awake16_any w hE)
  clear hE
  have HI := Lib.hid (fun w hE => id_any a b w hE)
  have HJ := Lib.hid (fun w hE => id_any c d w hE)
  by_cases h1 : okI a b = true
  case neg =>
    rw [idR_no h1] at HI
    have hj : (idR c d).2 = 0 ∨ (idR c d).2 = 1 := by
      by_cases h : okI c d = true
      · rw [idR_yes h]; exact Or.inl rfl
      · rw [idR_no h]; exact Or.inr rfl
    generalize idR c d = r at *
    obtain ⟨r1, r2⟩ := r
    simp only at HJ hj
    clear h1 hj
    go_enter Tryz.func5, Tryz.ntmps5
    go_wp2_with fail
    refine HW.out.mono ?_
    rintro e y ⟨rfl, k⟩
    go_wp2_with fail
    refine (HI.out _ (HE.out.kept k)).mono ?_
    rintro e y2 ⟨rfl, k2⟩
    have K2 := Lib.hid (k.trans k2)
    clear k k2
    go_wp2_with fail
    refine (HJ.out _ (HE.out.kept K2.out)).mono ?_
    rintro e y3 ⟨rfl, k3⟩
    have K3 := Lib.hid (K2.out.trans k3)
    clear k3
    go_wp2
    go_ret
    exact ⟨rfl, K3.out⟩
  by_cases h2 : okI c d = true
  case neg =>
    rw [idR_yes h1] at HI
    rw [idR_no h2] at HJ
    generalize idT b.toNat a.toNat = x at *
    clear h1 h2
    go_enter Tryz.func5, Tryz.ntmps5
    go_wp2_with fail
    refine HW.out.mono ?_
    rintro e y ⟨rfl, k⟩
    go_wp2_with fail
    refine (HI.out _ (HE.out.kept k)).mono ?_
    rintro e y2 ⟨rfl, k2⟩
    have K2 := Lib.hid (k.trans k2)
    clear k k2
    go_wp2_with fail
    refine (HJ.out _ (HE.out.kept K2.out)).mono ?_
    rintro e y3 ⟨rfl, k3⟩
    have K3 := Lib.hid (K2.out.trans k3)
    clear k3
    go_wp2
    go_ret
    exact ⟨rfl, K3.out⟩
  rw [idR_yes h1] at HI
  rw [idR_yes h2] at HJ
  obtain ⟨i1, i2, i3, i4⟩ := okI_iff.1 h1
  obtain ⟨j1, j2, j3, j4⟩ := okI_iff.1 h2
  have hp := ps_yes (no := b.toNat) (sub := a.toNat) (by omega) (by omega) (by omega)
  have HP := Lib.hid (fun w hE => parse_any (idT b.toNat a.toNat) w hE (by have := id_len (no := b.toNat) (sub := a.toNat) (by omega) (by omega); omega))
  rw [hp, Int.toNat_of_nonneg i1, Int.toNat_of_nonneg (show 0 ≤ b by omega)] at HP
  have hq : (idT b.toNat a.toNat == idT d.toNat c.toNat) = (decide (a = c) && decide (b = d)) := by
    by_cases e : a = c ∧ b = d
    · obtain ⟨rfl, rfl⟩ := e
      simp
    · have : idT b.toNat a.toNat ≠ idT d.toNat c.toNat := fun h => e (by obtain ⟨e1, e2⟩ := id_inj h; omega)
      rw [beq_eq_false_iff_ne.2 this]
      symm
      rw [Bool.and_eq_false_iff]
      by_cases e1 : a = c
      · exact Or.inr (decide_eq_false (fun e2 => e ⟨e1, e2⟩))
      · exact Or.inl (decide_eq_false e1)
  have HQ := Lib.hid hq
  generalize idT b.toNat a.toNat = x at *
  generalize idT d.toNat c.toNat = z at *
  clear h1 h2 i1 i2 i3 i4 j1 j2 j3 j4 hp hq
  obtain ⟨bq, hbq⟩ : ∃ q, (x == z) = q := ⟨_, rfl⟩
  have HBQ := Lib.hid (hbq.symm.trans HQ.out)
  by_cases e1 : a = c
  · by_cases e2 : b = d
    · have hx : (x == z) = true := by rw [hbq, HBQ.out, e1, e2]; simp
      clear hbq HBQ HQ
      subst e1 e2
      go_enter Tryz.func5, Tryz.ntmps5
      go_wp2_with fail
      refine HW.out.mono ?_
      rintro e y ⟨rfl, k⟩
      go_wp2_with fail
      refine (HI.out _ (HE.out.kept k)).mono ?_
      rintro e y2 ⟨rfl, k2⟩
      have K2 := Lib.hid (k.trans k2)
      clear k k2
      go_wp2_with fail
      refine (HJ.out _ (HE.out.kept K2.out)).mono ?_
      rintro e y3 ⟨rfl, k3⟩
      have K3 := Lib.hid (K2.out.trans k3)
      clear k3
      go_wp2_with fail
      refine (HP.out _ (HE.out.kept K3.out)).mono ?_
      rintro e y4 ⟨rfl, k4⟩
      have K4 := Lib.hid (K3.out.trans k4)
      clear k4
      go_wp2
      go_ret
      exact ⟨rfl, K4.out⟩
    · have hx : (x == z) = false := by rw [hbq, HBQ.out, decide_eq_false e2, Bool.and_false]
      have e2' : (b == d) = false := beq_eq_false_iff_ne.2 e2
      clear hbq HBQ HQ
      subst e1
      go_enter Tryz.func5, Tryz.ntmps5
      go_wp2_with fail
      refine HW.out.mono ?_
      rintro e y ⟨rfl, k⟩
      go_wp2_with fail
      refine (HI.out _ (HE.out.kept k)).mono ?_
      rintro e y2 ⟨rfl, k2⟩
      have K2 := Lib.hid (k.trans k2)
      clear k k2
      go_wp2_with fail
      refine (HJ.out _ (HE.out.kept K2.out)).mono ?_
      rintro e y3 ⟨rfl, k3⟩
      have K3 := Lib.hid (K2.out.trans k3)
      clear k3
      go_wp2_with fail
      refine (HP.out _ (HE.out.kept K3.out)).mono ?_
      rintro e y4 ⟨rfl, k4⟩
      have K4 := Lib.hid (K3.out.trans k4)
      clear k4
      go_wp2
      go_ret
      exact ⟨rfl, K4.out⟩
  · have hx : (x == z) = false := by rw [hbq, HBQ.out, decide_eq_false e1, Bool.false_and]
    have e1' : (a == c) = false := beq_eq_false_iff_ne.2 e1
    clear hbq HBQ HQ
    go_enter Tryz.func5, Tryz.ntmps5
    go_wp2_with fail
    refine HW.out.mono ?_
    rintro e y ⟨rfl, k⟩
    go_wp2_with fail
    refine (HI.out _ (HE.out.kept k)).mono ?_
    rintro e y2 ⟨rfl, k2⟩
    have K2 := Lib.hid (k.trans k2)
    clear k k2
    go_wp2_with fail
    refine (HJ.out _ (HE.out.kept K2.out)).mono ?_
    rintro e y3 ⟨rfl, k3⟩
    have K3 := Lib.hid (K2.out.trans k3)
    clear k3
    go_wp2_with fail
    refine (HP.out _ (HE.out.kept K3.out)).mono ?_
    rintro e y4 ⟨rfl, k4⟩
    have K4 := Lib.hid (K3.out.trans k4)
    clear k4
    go_wp2
    go_ret
    exact ⟨rfl, K4.out⟩
end Go.Proofs.YtjlpkgipdkjfhaaGreatDoor.Bk.Dg
