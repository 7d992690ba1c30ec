/- The document's own answers of layer ent: entities, and a text gone through. -/
import Derived.Test.YtpkbcomdkamglaaGreatDoorEnRefD
set_option linter.unusedSimpArgs false
set_option linter.unusedVariables false
namespace Go.Proofs.YtpkbcomdkamglaaGreatDoor
open Go.ChangeShapes Go.WideShapes Go.ChangeAt Go.RowKit
open En
theorem ext_mk (l : List UInt8) (a b : Nat) : (ByteArray.mk l.toArray).extract a b = ⟨((l.drop a).take (b - a)).toArray⟩ := by
  apply ByteArray.ext
  rw [ByteArray.data_extract]
  simp
theorem rn_nm {base : Int} {l : List UInt8} : rnS (nmV base l) = ((num base l).bind rn).getD [] ∧ okN (nmV base l) = ((num base l).bind rn).isSome := by
  unfold nmV rnS
  cases h : num base l with
  | none => exact ⟨rfl, rfl⟩
  | some m =>
    simp only [Option.bind_some]
    unfold cap
    by_cases q : 1114111 < m
    · rw [if_pos q]
      have e : okN m = false := by unfold okN; simp; omega
      unfold rn
      rw [e]
      exact ⟨rfl, rfl⟩
    · rw [if_neg q]
      refine ⟨rfl, ?_⟩
      unfold rn
      cases okN m <;> rfl
def sgS (b : List UInt8) : List UInt8 := (sg b).getD []
theorem sg_short {b : List UInt8} (h : b.length < 2) : sg b = none := by
  unfold sg
  rw [if_neg (fun e => by rw [e] at h; simp at h), if_neg (fun e => by rw [e] at h; simp at h), if_neg (fun e => by rw [e] at h; simp at h), if_neg (fun e => by rw [e] at h; simp at h), if_neg (fun e => by rw [e] at h; simp at h)]
  match b, h with
  | [], _ => rfl
  | [c], _ =>
    split
    · rename_i h1; simp at h1
    · rename_i h1
      simp only [List.cons.injEq] at h1
      obtain ⟨_, rfl⟩ := h1
      rfl
    · rfl
def sgN (b : List UInt8) : Option (List UInt8) :=
  match b with
  | 35 :: 120 :: r => (num 16 r).bind rn
  | 35 :: r => (num 10 r).bind rn
  | _ => none
theorem sg_else {b : List UInt8} (e1 : ¬ b = [97, 109, 112]) (e2 : ¬ b = [108, 116]) (e3 : ¬ b = [103, 116]) (e4 : ¬ b = [113, 117, 111, 116]) (e5 : ¬ b = [97, 112, 111, 115]) :
    sg b = sgN b := by
  unfold sg
  rw [if_neg e1, if_neg e2, if_neg e3, if_neg e4, if_neg e5]
  rfl
theorem sgN_neg {c0 c1 : UInt8} {r : List UInt8} (h : ¬ c0 = 35) : sgN (c0 :: c1 :: r) = none := by
  unfold sgN
  split
  · rename_i q; simp only [List.cons.injEq] at q; exact absurd q.1 h
  · rename_i q; simp only [List.cons.injEq] at q; exact absurd q.1 h
  · rfl
theorem sgN_ten {c1 : UInt8} {r : List UInt8} (h : ¬ c1 = 120) : sgN (35 :: c1 :: r) = (num 10 (c1 :: r)).bind rn := by
  unfold sgN
  split
  · rename_i q; simp only [List.cons.injEq] at q; exact absurd q.2.1 h
  · rename_i q; simp only [List.cons.injEq, true_and] at q; rw [q]
  · rename_i q; exact absurd rfl (q _)
set_option maxRecDepth 100000 in
set_option maxHeartbeats 4000000 in
theorem rsign_any (b : List UInt8) (w : World) (hl : b.length ≤ 1000) : Calls Tryz.prog 59 #[.string ⟨b.toArray⟩] w fun e w' => e = .returned (.tuple #[.string ⟨(sgS b).toArray⟩, .bool (sg b).isSome]) ∧ Kept w w' := by
  by_cases e1 : b = [97, 109, 112]
  · subst e1
    go_enter Tryz.func59, Tryz.ntmps59
    go_wp2
    go_ret2
    exact ⟨rfl, Kept.refl _⟩
  by_cases e2 : b = [108, 116]
  · subst e2
    go_enter Tryz.func59, Tryz.ntmps59
    go_wp2
    go_ret2
    exact ⟨rfl, Kept.refl _⟩
  by_cases e3 : b = [103, 116]
  · subst e3
    go_enter Tryz.func59, Tryz.ntmps59
    go_wp2
    go_ret2
    exact ⟨rfl, Kept.refl _⟩
  by_cases e4 : b = [113, 117, 111, 116]
  · subst e4
    go_enter Tryz.func59, Tryz.ntmps59
    go_wp2
    go_ret2
    exact ⟨rfl, Kept.refl _⟩
  by_cases e5 : b = [97, 112, 111, 115]
  · subst e5
    go_enter Tryz.func59, Tryz.ntmps59
    go_wp2
    go_ret2
    exact ⟨rfl, Kept.refl _⟩
  have HE := Lib.hid (sg_else e1 e2 e3 e4 e5)
  have b1 : (b == [97, 109, 112]) = false := beq_eq_false_iff_ne.2 e1
  have b2 : (b == [108, 116]) = false := beq_eq_false_iff_ne.2 e2
  have b3 : (b == [103, 116]) = false := beq_eq_false_iff_ne.2 e3
  have b4 : (b == [113, 117, 111, 116]) = false := beq_eq_false_iff_ne.2 e4
  have b5 : (b == [97, 112, 111, 115]) = false := beq_eq_false_iff_ne.2 e5
  clear e1 e2 e3 e4 e5
  by_cases h2 : b.length < 2
  · have HR := Lib.hid (show sg b = none from sg_short h2)
    have HS := Lib.hid (show sgS b = [] by unfold sgS; rw [HR.out]; rfl)
    have h2' : (b.length : Int) < 2 := by omega
    clear HE
    go_enter Tryz.func59, Tryz.ntmps59
    go_wp2
    go_ret2
    exact ⟨by rw [HS.out, HR.out]; rfl, Kept.refl _⟩
  obtain ⟨c0, h0⟩ : ∃ c, b[0]? = some c := ⟨_, List.getElem?_eq_getElem (by omega)⟩
  obtain ⟨c1, h1⟩ : ∃ c, b[1]? = some c := ⟨_, List.getElem?_eq_getElem (by omega)⟩
  have hat0 := byte_at b 0 c0 h0
  have hat1 := byte_at b 1 c1 h1
  have hb : b = c0 :: c1 :: b.drop 2 := by
    have q0 := drop_at h0; have q1 := drop_at h1
    rw [List.drop_zero] at q0
    rw [← q1, ← q0]
  have HB := Lib.hid hb
  have h2' : ¬ (b.length : Int) < 2 := by omega
  by_cases g0 : (c0.toNat : Int) = 35
  case neg =>
    have HR := Lib.hid (show sg b = none by
      rw [HE.out, HB.out]
      exact sgN_neg (fun e => g0 (by rw [e]; rfl)))
    have HS := Lib.hid (show sgS b = [] by unfold sgS; rw [HR.out]; rfl)
    have gb : ((c0.toNat : Int) != 35) = true := bne_iff_ne.2 g0
    clear HE hb h0 h1 hat1
    go_enter Tryz.func59, Tryz.ntmps59
    go_wp2
    go_ret2
    exact ⟨by rw [HS.out, HR.out]; rfl, Kept.refl _⟩
  have gb : ((c0.toNat : Int) != 35) = false := by simpa using g0
  have hc0 : c0 = 35 := u8_eq g0
  have X1 : (ByteArray.mk b.toArray).extract 1 b.length = ⟨(c1 :: b.drop 2).toArray⟩ := by
    rw [ext_mk, ← drop_at h1, List.take_of_length_le (by rw [List.length_drop]; omega)]
  have X2 : (ByteArray.mk b.toArray).extract 2 b.length = ⟨(b.drop 2).toArray⟩ := by
    rw [ext_mk, List.take_of_length_le (by rw [List.length_drop]; omega)]
  have N1 := Lib.hid (fun w => rnumber_any (c1 :: b.drop 2) 10 w (Or.inl rfl) (by simp; omega))
  have N2 := Lib.hid (fun w => rnumber_any (b.drop 2) 16 w (Or.inr rfl) (by simp; omega))
  rw [← X1] at N1
  rw [← X2] at N2
  clear X1 X2 hb h0 h1
  by_cases g1 : (c1.toNat : Int) = 120
  · have hc1 : c1 = 120 := u8_eq g1
    have HR := Lib.hid (show sg b = (num 16 (b.drop 2)).bind rn by
      rw [HE.out]
      conv => lhs; rw [HB.out, hc0, hc1]
      rfl)
    have gb1 : ((c1.toNat : Int) == 120) = true := beq_iff_eq.2 g1
    obtain ⟨r1, r2⟩ := rn_nm (base := 16) (l := b.drop 2)
    have HS := Lib.hid (show rnS (nmV 16 (b.drop 2)) = sgS b by unfold sgS; rw [HR.out]; exact r1)
    have HO := Lib.hid (show okN (nmV 16 (b.drop 2)) = (sg b).isSome by rw [HR.out]; exact r2)
    clear HE HR g0 g1 hc0 hc1 r1 r2
    go_enter Tryz.func59, Tryz.ntmps59
    go_wp2_with fail
    refine (N1.out _).mono ?_
    rintro e x2 ⟨rfl, rfl⟩
    clear N1
    go_wp2_with fail
    refine (N2.out _).mono ?_
    rintro e x2 ⟨rfl, rfl⟩
    clear N2
    generalize nmV 16 (b.drop 2) = nv at *
    go_wp2_with fail
    refine (rrune_any nv _).mono ?_
    rintro e x2 ⟨rfl, k2⟩
    rw [HS.out, HO.out]
    go_wp2
    go_ret2
    exact ⟨rfl, k2⟩
  · have hc1 : ¬ c1 = 120 := fun e => g1 (by rw [e]; rfl)
    have HR := Lib.hid (show sg b = (num 10 (c1 :: b.drop 2)).bind rn by
      rw [HE.out]
      conv => lhs; rw [HB.out, hc0]
      exact sgN_ten hc1)
    have gb1 : ((c1.toNat : Int) == 120) = false := beq_eq_false_iff_ne.2 g1
    obtain ⟨r1, r2⟩ := rn_nm (base := 10) (l := c1 :: b.drop 2)
    have HS := Lib.hid (show rnS (nmV 10 (c1 :: b.drop 2)) = sgS b by unfold sgS; rw [HR.out]; exact r1)
    have HO := Lib.hid (show okN (nmV 10 (c1 :: b.drop 2)) = (sg b).isSome by rw [HR.out]; exact r2)
    clear HE HR g0 g1 hc0 hc1 r1 r2 N2
    go_enter Tryz.func59, Tryz.ntmps59
    go_wp2_with fail
    refine (N1.out _).mono ?_
    rintro e x2 ⟨rfl, rfl⟩
    clear N1
    generalize nmV 10 (c1 :: b.drop 2) = nv at *
    go_wp2_with fail
    refine (rrune_any nv _).mono ?_
    rintro e x2 ⟨rfl, k2⟩
    rw [HS.out, HO.out]
    go_wp2
    go_ret2
    exact ⟨rfl, k2⟩
end Go.Proofs.YtpkbcomdkamglaaGreatDoor
