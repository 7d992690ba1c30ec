/- What is decoded of two, one behind the other, is what is decoded of both. -/
import Derived.Test.YtkcalnmemjioaaaQpAw
set_option linter.unusedSimpArgs false
set_option linter.unusedVariables false
namespace Go.Proofs.Ytkcalnmemjioaaa
open Go.ChangeShapes Go.WideShapes Go.ChangeAt Go.RowKit
open Qp
theorem conv_at {v : Value} {l : B} {w w' : World} (h : BRd v l w) (k : Kept w w') : (convert 22 9 v).run Try.prog w' = .ok (sV l) w' := (h.kept k).conv
set_option maxRecDepth 100000 in
set_option maxHeartbeats 4000000 in
theorem joins12_walk (v : Value) (l : B) (v' : Value) (l' : B) (w : World) (hB : BRd v l w) (hd : l.length ≤ maxLen) (hB' : BRd v' l' w) (hd' : l'.length ≤ maxLen) : Calls Try.prog 7 #[v, v'] w fun e w' => e = .returned (.bool true) ∧ Kept w w' := by
  unfold maxLen at hd hd'
  obtain ⟨g, c, hv⟩ := hB.slice
  obtain ⟨g', c', hv'⟩ := hB'.slice
  subst hv
  subst hv'
  have HB := Lib.hid hB
  have HB' := Lib.hid hB'
  clear hB hB'
  go_enter Try.func7, Try.ntmps7
  go_wp2_with fail
  refine (awake12_any w).mono ?_
  rintro e x1 ⟨rfl, k1⟩
  have K1 := Lib.hid k1
  clear k1
  by_cases hs : 500 < (l.length : Int)
  · go_wp2
    go_ret
    exact ⟨rfl, K1.out⟩
  by_cases hs' : 500 < (l'.length : Int)
  · go_wp2
    go_ret
    exact ⟨rfl, K1.out⟩
  have hl : l.length ≤ 500 := by omega
  have hl' : l'.length ≤ 500 := by omega
  go_wp2_with fail
  refine (decode_any _ l x1 (HB.out.kept K1.out) (by omega)).mono ?_
  rintro e x2 ⟨xv, rfl, ⟨av, hO, rfl⟩, k2⟩
  have K2 := Lib.hid (K1.out.trans k2)
  have R2 := Lib.hid hO.rd
  obtain ⟨a2, c2, hv2⟩ := own_slice hO
  subst hv2
  clear hO k2 K1
  go_wp2_with fail
  refine (decode_any _ l' x2 (HB'.out.kept K2.out) (by omega)).mono ?_
  rintro e x3 ⟨xv, rfl, ⟨bv, hO, rfl⟩, k3⟩
  have K3 := Lib.hid (K2.out.trans k3)
  have R3 := Lib.hid (R2.out.kept k3)
  have S3 := Lib.hid hO.rd
  obtain ⟨a3, c3, hv3⟩ := own_slice hO
  subst hv3
  have RA := Lib.hid (HB.out.kept K3.out)
  have RB := Lib.hid (HB'.out.kept K3.out)
  clear hO k3 K2 R2 HB HB'
  go_upto_region 6 with (fail)
  go_wp2_with (at_builtin; refine wpList_sliceB rfl _ _ rfl x3.heap.size (.slice none 0 0) _ [] l rfl (OwnB.nil _ _) rfl RA.out (by simp; omega) (Nat.le_refl _) ?_)
  intro v4 x4 hO hg
  have k4 : Kept x3 x4 := kept_row (Kept.refl _) hg (fun r hr => by cases hr)
  have O4 := Lib.hid hO
  have hs4 := k4.size
  have RB4 := Lib.hid (RB.out.kept k4)
  have HK4 := Lib.hid k4
  obtain ⟨a4, c4, hv4⟩ := own_slice hO
  subst hv4
  clear hO hg k4 RA RB
  go_wp2_with (at_builtin; refine wpList_sliceB rfl _ _ rfl x3.heap.size (.slice a4 l.length c4) _ l l' rfl O4.out rfl RB4.out (by omega) hs4 ?_)
  intro v5 x5 hO hg
  have k5 : Kept x3 x5 := kept_row HK4.out hg (fun r hr => (World.ownsRow.lt O4.out r hr).1)
  have O5 := Lib.hid hO
  have K5 := Lib.hid (K3.out.trans k5)
  have R5 := Lib.hid (R3.out.kept k5)
  have S5 := Lib.hid (S3.out.kept k5)
  obtain ⟨a5, c5, hv5⟩ := own_slice hO
  subst hv5
  have hll : (l ++ l').length ≤ 1000 := by simp; omega
  clear hO hg k5 O4 RB4 HK4 K3 R3 S3
  have HJ := Lib.hid (fun x (h : dec l = some x) => dec_joins (r := l') h)
  generalize l ++ l' = ll at *
  go_wp2_with fail
  refine (decode_any _ ll x5 O5.out.rd (by omega)).mono ?_
  rintro e x6 ⟨xv, rfl, ⟨zv, hO, rfl⟩, k6⟩
  have K6 := Lib.hid (K5.out.trans k6)
  have R6 := Lib.hid (R5.out.kept k6)
  have S6 := Lib.hid (S5.out.kept k6)
  have T6 := Lib.hid hO.rd
  obtain ⟨a6, c6, hv6⟩ := own_slice hO
  subst hv6
  clear hO k6 O5 K5 R5 S5
  cases h1 : dec l with
  | none =>
    rw [dE_none h1]
    clear HJ h1
    go_wp2
    go_ret
    exact ⟨rfl, K6.out⟩
  | some x =>
    have HJ := Lib.hid (HJ.out x h1)
    rw [dE_some h1]
    cases h2 : dec l' with
    | none =>
      have h3 : dec ll = none := by rw [HJ.out, h2]; rfl
      rw [dE_none h2, dE_none h3, h3]
      simp only [Option.getD_none, List.length_nil]
      clear HJ h1 h2 h3
      go_wp2
      go_ret
      exact ⟨rfl, K6.out⟩
    | some y =>
      have h3 : dec ll = some (x ++ y) := by rw [HJ.out, h2]; rfl
      rw [h3, show (some (x ++ y)).getD [] = x ++ y from rfl] at T6
      rw [h1, show (some x).getD [] = x from rfl] at R6
      rw [h2, show (some y).getD [] = y from rfl] at S6
      rw [dE_some h2, dE_some h3, h3]
      simp only [Option.getD_some]
      have hx := dec_le h1
      have hy := dec_le h2
      have P1 : (⟨x.toArray⟩ ++ ⟨y.toArray⟩ : ByteArray) = ⟨(x ++ y).toArray⟩ := str_app x y
      have hc1 := R6.out.conv
      have hc2 := S6.out.conv
      have hc3 := T6.out.conv
      have hsx : (ByteArray.mk x.toArray).size = x.length := List.size_toArray
      have hsy : (ByteArray.mk y.toArray).size = y.length := List.size_toArray
      clear HJ h1 h2 h3 T6 R6 S6
      generalize x ++ y = xy at *
      go_wp2
      go_ret
      exact ⟨rfl, K6.out⟩
end Go.Proofs.Ytkcalnmemjioaaa
