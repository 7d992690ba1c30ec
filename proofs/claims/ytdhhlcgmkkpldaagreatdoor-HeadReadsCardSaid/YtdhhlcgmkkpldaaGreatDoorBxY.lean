/- Package b64's Bytes. -/
import Derived.Test.YtdhhlcgmkkpldaaGreatDoorBxD
set_option linter.unusedSimpArgs false
set_option linter.unusedVariables false
namespace Go.Proofs.YtdhhlcgmkkpldaaGreatDoor
open Go.ChangeShapes Go.WideShapes Go.ChangeAt Go.RowKit
open Bx
theorem trim_any (s : B) (w : World) (hs : s.length ≤ maxLen) : Calls Tryz.prog 80 #[sV s, .string ⟨#[61]⟩] w fun e w' => e = .returned (sV (Lib.trimRightB s 61)) ∧ w' = w := by
  have hsz : (ByteArray.mk s.toArray).size = s.length := List.size_toArray
  refine (Tryz.strings_TrimRight_one ⟨s.toArray⟩ 61 (by decide) w (by unfold maxLen at hs; omega)).mono ?_
  rintro e y ⟨rfl, rfl⟩
  exact ⟨by simp, rfl⟩
/-- Bytes' error -/
noncomputable def bE (s : B) : Int := if (byt s).isSome = true then 0 else 2
theorem bE_some {s x : B} (h : byt s = some x) : bE s = 0 := by unfold bE; rw [h]; rfl
theorem bE_none {s : B} (h : byt s = none) : bE s = 2 := by unfold bE; rw [h]; rfl
/-- what Bytes answers: a slice, and an error -/
def BytR (B0 : Nat) (s : B) (v : Value) (w : World) : Prop := ∃ xv, OwnB B0 xv ((byt s).getD []) w ∧ v = .tuple #[xv, .int .i64 (bE s)]
theorem BytR.none {B0 : Nat} {s : B} (h : byt s = none) (w : World) : BytR B0 s (.tuple #[.slice none 0 0, .int .i64 2]) w := ⟨_, by rw [h]; exact OwnB.nil _ _, by rw [bE_none h]⟩
theorem BytR.some {B0 : Nat} {s x : B} {v : Value} {w : World} (h : byt s = some x) (hO : OwnB B0 v x w) : BytR B0 s (.tuple #[v, .int .i64 0]) w := ⟨_, by rw [h]; exact hO, by rw [bE_some h]⟩
set_option maxRecDepth 100000 in
set_option maxHeartbeats 4000000 in
theorem bytes_any (s : B) (w : World) (hl : s.length ≤ 1000000) : Calls Tryz.prog 63 #[sV s] w fun e w' => ∃ xv, e = .returned xv ∧ BytR w.heap.size s xv w' ∧ Kept w w' := by
  have HT := Lib.hid (trim_any s w (by unfold maxLen; omega))
  have HR := Lib.hid (read_any (Lib.trimRightB s 61) w (Nat.le_trans (trim_le s) (by omega)))
  have HN := Lib.hid (fun (h : rd 0 0 (Lib.trimRightB s 61) = none) => byt_cnd h)
  have HY := Lib.hid (fun (x : B) (h : rd 0 0 (Lib.trimRightB s 61) = some x) (hx : raw x ≠ s) => byt_not h hx)
  have HL := Lib.hid (fun (x : B) (h : rd 0 0 (Lib.trimRightB s 61) = some x) => cnd_len h)
  generalize Lib.trimRightB s 61 = t at *
  go_enter Tryz.func63, Tryz.ntmps63
  go_wp2_with fail
  refine HT.out.mono ?_
  rintro e y ⟨rfl, rfl⟩
  clear HT
  go_wp2_with fail
  refine HR.out.mono ?_
  rintro e x ⟨xv, rfl, ⟨av, hO, rfl⟩, k⟩
  have K := Lib.hid k
  clear HR k
  cases h : rd 0 0 t with
  | none =>
    have HB := Lib.hid (HN.out h)
    obtain ⟨ta, tc, htv⟩ := own_slice hO
    subst htv
    clear HN HY HL hO h
    simp only [Option.isSome_none]
    go_wp2
    go_ret2
    exact ⟨_, rfl, BytR.none HB.out _, K.out⟩
  | some z =>
    have HY2 := Lib.hid (HY.out z h)
    have hzl := HL.out z h
    rw [h] at hO
    have hO : OwnB y.heap.size av z x := hO
    have HO := Lib.hid hO
    have HR := Lib.hid hO.rd
    obtain ⟨ta, tc, htv⟩ := own_slice hO
    subst htv
    clear HN HY HL hO h
    simp only [Option.isSome_some]
    go_wp2_with fail
    refine (raw_any _ z x HR.out (by omega)).mono ?_
    rintro e x2 ⟨rfl, k2⟩
    have K2 := Lib.hid (K.out.trans k2)
    have O2 := Lib.hid (HO.out.kept k2)
    clear k2 HO HR K
    by_cases hz : raw z = s
    · have HB := Lib.hid (byt_some hz)
      rw [hz]
      go_wp2
      go_ret2
      exact ⟨_, rfl, BytR.some HB.out O2.out, K2.out⟩
    · have HB := Lib.hid (HY2.out hz)
      have hq : (raw z == s) = false := beq_eq_false_iff_ne.2 hz
      clear HY2 hz
      generalize raw z = q at *
      go_wp2
      go_ret2
      exact ⟨_, rfl, BytR.none HB.out _, K2.out⟩
end Go.Proofs.YtdhhlcgmkkpldaaGreatDoor
