/- PartJoins: any bodies of any kinds are joined, with the boundary, or have the error, that the document says. -/
import Derived.Test.YtgpocnnolieijaaGreatDoorPtSm
import Derived.Test.YtgpocnnolieijaaGreatDoorPtRj
set_option linter.unusedSimpArgs false
set_option linter.unusedVariables false
namespace Go.Proofs.YtgpocnnolieijaaGreatDoor.Pt
open Go.ChangeShapes Go.WideShapes Go.ChangeAt Go.RowKit Go.Shelf
open Hd (SRd OwnS)
def EnvT (w : World) : Prop := Env w ∧ Tab w
theorem EnvT.kept {w w' : World} (h : EnvT w) (k : Kept w w') : EnvT w' := ⟨h.1.kept k, k.tab h.2⟩
theorem sum_le (M : Nat) : ∀ ls : List B, (∀ b ∈ ls, b.length ≤ M) → sum ls ≤ ls.length * M
  | [], _ => by simp [sum]
  | b :: ls, h => by
    have h2 := h b (by simp)
    have h3 := sum_le M ls (fun x hx => h x (by simp [hx]))
    simp only [sum, List.length_cons, Nat.add_mul]
    omega
theorem few_sum {ks ls : List B} (h : few ks ls = true) : sum ls ≤ 3000 := by
  obtain ⟨⟨_, h1⟩, _, h2⟩ := few_iff.1 h
  have := sum_le 300 ls h2
  have h3 : ls.length * 300 ≤ 10 * 300 := Nat.mul_le_mul_right _ h1
  omega
set_option maxRecDepth 100000 in
set_option maxHeartbeats 4000000 in
theorem joins15_walk (kv lv : Value) (ks ls : List B) (w : World) (hk : SRd kv ks w) (hl : LRd lv ls w) (hE : EnvT w) :
    Calls Tryz.prog 3 #[kv, lv] w fun e w' => e = .returned (.bool true) ∧ Kept w w' := by
  obtain ⟨ka, kc, rfl⟩ := hk.slice
  obtain ⟨la, lc, rfl⟩ := hl.slice
  have HK := Lib.hid hk
  have HL := Lib.hid hl
  have HE := Lib.hid hE
  have HA := Lib.hid (awake15_any w hE.1)
  clear hk hl hE
  go_enter Tryz.func3, Tryz.ntmps3
  go_wp2_with fail
  refine HA.out.mono ?_
  rintro e x1 ⟨rfl, k1⟩
  have K1 := Lib.hid k1
  have HF := Lib.hid (few_any _ _ ks ls x1 (HK.out.kept k1) (HL.out.kept k1))
  clear k1 HA
  go_wp2_with fail
  refine HF.out.mono ?_
  rintro e x2 ⟨rfl, hx2⟩
  have hx2' := hx2.symm
  subst hx2'
  clear hx2 HF
  cases hf : few ks ls with
  | false =>
    clear hf
    go_wp2
    go_ret
    exact ⟨rfl, K1.out⟩
  | true =>
    have hs := few_sum hf
    obtain ⟨⟨hkn, hln⟩, hkb, hlb⟩ := few_iff.1 hf
    have HJ := Lib.hid (join_any _ _ ks ls x1 (HK.out.kept K1.out) (HL.out.kept K1.out) (HE.out.1.kept K1.out) (fun k hk => by have := hkb k hk; omega) (fun d hd => by have := hlb d hd; omega))
    have HRj := Lib.hid (fun (y : World) (k : Kept x1 y) => rjoin_any _ _ ks ls y (HK.out.kept (K1.out.trans k)) (HL.out.kept (K1.out.trans k)) (fun k hk => by have := hkb k hk; omega) (fun d hd => by have := hlb d hd; omega))
    have HB := Lib.hid (fun (y : World) (k : Kept x1 y) => boundary_any _ ls y (HL.out.kept (K1.out.trans k)) (HE.out.1.kept (K1.out.trans k)) (Or.inr ((K1.out.trans k).tab HE.out.2)) (by omega) (by omega))
    have HRb := Lib.hid (fun (y : World) (k : Kept x1 y) => rboundary_any _ ls y (HL.out.kept (K1.out.trans k)) (fun d hd => by have := hlb d hd; omega) (by omega) (by omega))
    clear hf hkb hlb hs
    go_wp2_with fail
    refine HJ.out.mono ?_
    rintro e y1 ⟨av, rfl, ha, k1⟩
    have K2 := Lib.hid k1
    have AO := Lib.hid ha
    clear k1 HJ
    obtain ⟨aa, ac, hav⟩ := own_slice ha
    clear ha
    subst hav
    generalize (jB ks ls).length = jn at *
    go_wp2_with fail
    refine (HRj.out y1 K2.out).mono ?_
    rintro e y2 ⟨bv, rfl, hb, k2⟩
    have K3 := Lib.hid (K2.out.trans k2)
    have hca := (OwnB.kept AO.out k2).rd.conv
    have hcb := hb.rd.conv
    obtain ⟨ba, bc, hbv⟩ := own_slice hb
    subst hbv
    generalize (jB ks ls).length = jn2 at *
    generalize jB ks ls = J at *
    generalize jX ks ls = X at *
    generalize jE ks ls = E at *
    have b1 : (J == J) = true := by simp
    have b2 : (X == X) = true := by simp
    have b3 : (E == E) = true := by simp
    clear hb k2 AO
    go_wp2_with fail
    refine (HB.out y2 K3.out).mono ?_
    rintro e y3 ⟨rfl, k3⟩
    have K4 := Lib.hid (K3.out.trans k3)
    clear k3 hca hcb
    go_wp2_with fail
    refine (HRb.out y3 K4.out).mono ?_
    rintro e y4 ⟨rfl, hy4⟩
    have hy4' := hy4.symm
    subst hy4'
    generalize bdy ls = Z at *
    have b4 : (Z == Z) = true := by simp
    clear hy4
    go_wp2
    go_ret
    exact ⟨rfl, K1.out.trans K4.out⟩
end Go.Proofs.YtgpocnnolieijaaGreatDoor.Pt
