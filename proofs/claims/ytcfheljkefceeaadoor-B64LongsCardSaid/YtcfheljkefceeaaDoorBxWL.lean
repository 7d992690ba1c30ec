/- How many signs there are, and lines; those of two. -/
import Derived.Test.YtcfheljkefceeaaDoorBxAw
set_option linter.unusedSimpArgs false
set_option linter.unusedVariables false
namespace Go.Proofs.YtcfheljkefceeaaDoor
open Go.ChangeShapes Go.WideShapes Go.ChangeAt Go.RowKit
open Bx
/-- bytes more, where a guard lets that be done -/
theorem wpList_sliceBg {ops : Array Oper} {rest : List Oper} {op : Oper} {a : Act} {w : World} {Q : Exit → Act → World → Prop} (hg : Region.wanted op (yielded ops a.tmps) = true) (sx x : Operand) (ho : op.op = .call { callee := .builtin .append, args := #[sx, x], argTypes := #[22, 22] })
    (B0 : Nat) (v xv : Value) (l t : B) (hs : a.eval sx = v) (hO : OwnB B0 v l w) (hx : a.eval x = xv) (hR : BRd xv t w) (hl : l.length + t.length ≤ 100000000000000) (hB : B0 ≤ w.heap.size)
    (h : ∀ v' w', OwnB B0 v' (l ++ t) w' → w.grownBy w' v.ownBlock → wpList Tryd.prog ops Q rest (a.put op.dst v') w') : wpList Tryd.prog ops Q (op :: rest) a w :=
  wpList_step fun K hK => by rw [if_pos hg]; exact wp_sliceB sx x ho B0 v xv l t hs hO hx hR hl hB (fun v' w' h1 h2 => hK _ _ (h v' w' h1 h2))
set_option maxRecDepth 100000 in
set_option maxHeartbeats 8000000 in
theorem longs13_walk (v : Value) (l : B) (u : Value) (m : B) (w : World) (hB : BRd v l w) (hd : l.length ≤ maxLen) (hM : BRd u m w) (hd2 : m.length ≤ maxLen) (hE : Env w) : Calls Tryd.prog 6 #[v, u] w fun e w' => e = .returned (.bool true) ∧ Kept w w' := by
  unfold maxLen at hd hd2
  obtain ⟨g, c, hv⟩ := hB.slice
  obtain ⟨g2, c2, hv2⟩ := hM.slice
  subst hv
  subst hv2
  have HB := Lib.hid hB
  have HM := Lib.hid hM
  clear hB hM
  go_enter Tryd.func6, Tryd.ntmps6
  go_wp2_with fail
  refine (awake13_any w hE).mono ?_
  rintro e x1 ⟨rfl, k1⟩
  have K1 := Lib.hid k1
  clear k1
  clear hE
  by_cases hs : 300 < (l.length : Int)
  · go_wp2
    go_ret
    exact ⟨rfl, K1.out⟩
  by_cases hs2 : 300 < (m.length : Int)
  · go_wp2
    go_ret
    exact ⟨rfl, K1.out⟩
  have hl : l.length ≤ 300 := by omega
  have hl2 : m.length ≤ 300 := by omega
  have hrn : ((l.length : Int) + 2) / 3 * 4 = (((raw l).length : Nat) : Int) := by rw [raw_len]; omega
  have hen : (((raw l).length : Nat) : Int) + 2 * (((((raw l).length : Nat) : Int) + 75) / 76) = (((enc l).length : Nat) : Int) := by
    have h1 := enc_len l
    have h2 := raw_len l
    rw [← h2] at h1
    omega
  have hrl := raw_le l
  have hel := enc_le l
  have HRA := Lib.hid (fun h => raw_app l m h)
  have HW := Lib.hid (fun (w : World) (h : BRd (.slice g l.length c) l w) => raw_any _ l w h (by omega))
  have HV := Lib.hid (fun (w : World) (h : BRd (.slice g l.length c) l w) => encode_any _ l w h (by omega))
  generalize hR : raw l = R at *
  generalize hE : enc l = E at *
  clear hR hE
  go_wp2_with fail
  refine (HW.out x1 (HB.out.kept K1.out)).mono ?_
  rintro e x2 ⟨rfl, k2⟩
  have K2 := Lib.hid (K1.out.trans k2)
  have hRs : (ByteArray.mk R.toArray).size = R.length := List.size_toArray
  clear k2 K1
  go_wp2_with fail
  refine (HV.out x2 (HB.out.kept K2.out)).mono ?_
  rintro e x3 ⟨ev, rfl, hO, k3⟩
  have K3 := Lib.hid (K2.out.trans k3)
  obtain ⟨a3, c3, hv3⟩ := own_slice hO
  subst hv3
  clear hO k3 K2 HV
  by_cases h3 : l.length % 3 = 0
  · have h3I : (l.length : Int) % 3 = 0 := by omega
    have HAP := Lib.hid (HRA.out h3)
    have R3 := Lib.hid (HB.out.kept K3.out)
    have hs3 := K3.out.size
    clear HRA
    go_wp2_with (at_builtin; refine wpList_sliceBg (by rfl) _ _ rfl x3.heap.size (.slice none 0 0) _ [] l rfl (OwnB.nil _ _) rfl R3.out (by simp; omega) (Nat.le_refl _) ?_)
    intro v4 x4 hO4 hg4
    have hO4 : OwnB x3.heap.size v4 l x4 := hO4
    have k4 : Kept x3 x4 := kept_row (Kept.refl _) hg4 (fun r hr => (by cases hr))
    have HK4 := Lib.hid k4
    have O4 := Lib.hid hO4
    have M4 := Lib.hid (HM.out.kept (K3.out.trans k4))
    have hs4 := k4.size
    obtain ⟨a4, c4, hv4⟩ := own_slice hO4
    subst hv4
    clear hO4 hg4 k4 R3
    go_wp2_with (at_builtin; refine wpList_sliceBg (by rfl) _ _ rfl x3.heap.size (.slice a4 l.length c4) _ l m rfl O4.out rfl M4.out (by omega) hs4 ?_)
    intro v5 x5 hO5 hg5
    have k5 : Kept x3 x5 := kept_row HK4.out hg5 (fun r hr => (World.ownsRow.lt O4.out r hr).1)
    have K5 := Lib.hid (K3.out.trans k5)
    have R5 := Lib.hid hO5.rd
    have HLM := Lib.hid (show (l ++ m).length ≤ 600 by simp; omega)
    obtain ⟨a5, c5, hv5⟩ := own_slice hO5
    subst hv5
    clear hO5 hg5 k5 O4 M4 HK4 K3
    generalize l ++ m = lm at *
    have hrm := raw_le m
    generalize hRM : raw m = M at *
    have HWM := Lib.hid (fun (w : World) (h : BRd (.slice g2 m.length c2) m w) => raw_any _ m w h (by omega))
    rw [hRM] at HWM
    clear hRM
    have P1 : (⟨R.toArray⟩ ++ ⟨M.toArray⟩ : ByteArray) = ⟨(R ++ M).toArray⟩ := str_app _ _
    have hMs : (ByteArray.mk M.toArray).size = M.length := List.size_toArray
    go_wp2_with fail
    refine (raw_any _ lm x5 R5.out (by have := HLM.out; omega)).mono ?_
    rintro e x6 ⟨rfl, k6⟩
    rw [HAP.out]
    have K6 := Lib.hid (K5.out.trans k6)
    clear k6 K5 R5
    go_wp2_with fail
    refine (HW.out x6 (HB.out.kept K6.out)).mono ?_
    rintro e x7 ⟨rfl, k7⟩
    have K7 := Lib.hid (K6.out.trans k7)
    clear k7 K6
    go_wp2_with fail
    refine (HWM.out x7 (HM.out.kept K7.out)).mono ?_
    rintro e x8 ⟨rfl, k8⟩
    have K8 := Lib.hid (K7.out.trans k8)
    clear k8 K7
    go_wp2
    go_ret
    exact ⟨rfl, K8.out⟩
  · have h3I : (((l.length : Int) % 3) == 0) = false := beq_eq_false_iff_ne.2 (by omega)
    go_wp2
    go_ret
    exact ⟨rfl, K3.out⟩
end Go.Proofs.YtcfheljkefceeaaDoor
