/- Package b64's Decode; the chapter's examples. -/
import Derived.Test.YtcfheljkefceeaaDoorBxY
import Derived.Test.YtcfheljkefceeaaDoorBxE
set_option linter.unusedSimpArgs false
set_option linter.unusedVariables false
namespace Go.Proofs.YtcfheljkefceeaaDoor
open Go.ChangeShapes Go.WideShapes Go.ChangeAt Go.RowKit
open Bx
/-- the library's variable lies where it lay -/
def Env (w : World) : Prop := ∃ m, w.cell? ⟨0, 0, none⟩ = some (.int .i64 m)
theorem Env.kept {w w' : World} (h : Env w) (k : Kept w w') : Env w' := by
  obtain ⟨m, hm⟩ := h
  exact ⟨m, k.yes hm⟩
set_option maxRecDepth 100000 in
theorem equal_any (v u : Value) (a b : B) (w : World) (hv : BRd v a w) (hu : BRd u b w) : Calls Tryd.prog 23 #[v, u] w fun e w' => e = .returned (.bool (a == b)) ∧ w' = w := by
  have c1 := hv.conv
  have c2 := hu.conv
  obtain ⟨xa, xc, rfl⟩ := hv.slice
  obtain ⟨ya, yc, rfl⟩ := hu.slice
  clear hv hu
  go_enter Tryd.func23, Tryd.ntmps23
  go_wp2
  go_ret
  exact ⟨rfl, rfl⟩
theorem rpl_any (s : B) (w : World) (hE : Env w) (hs : s.length ≤ 100000000) : Calls Tryd.prog 22 #[sV s, .string ⟨#[13, 10]⟩, .string ⟨#[]⟩] w fun e w' => e = .returned (sV (rpl s)) ∧ Kept w w' := by
  obtain ⟨m, hm⟩ := hE
  have hsz : (ByteArray.mk s.toArray).size = s.length := List.size_toArray
  refine (Tryd.strings_ReplaceAll ⟨s.toArray⟩ ⟨#[13, 10]⟩ ⟨#[]⟩ m w (by omega) hm (by decide) (by rw [show (ByteArray.mk #[]).size = 0 from rfl, Nat.mul_zero]; omega)).mono ?_
  rintro e y ⟨rfl, hb⟩
  exact ⟨by simp [rpl], Kept.of_below hb⟩
/-- Decode's error -/
noncomputable def dE (s : B) : Int := if (dec s).isSome = true then 0 else 2
theorem dE_some {s x : B} (h : dec s = some x) : dE s = 0 := by unfold dE; rw [h]; rfl
theorem dE_none {s : B} (h : dec s = none) : dE s = 2 := by unfold dE; rw [h]; rfl
/-- what Decode answers: a slice, and an error -/
def DecR (B0 : Nat) (s : B) (v : Value) (w : World) : Prop := ∃ xv, OwnB B0 xv ((dec s).getD []) w ∧ v = .tuple #[xv, .int .i64 (dE s)]
theorem DecR.none {B0 : Nat} {s : B} (h : dec s = none) (w : World) : DecR B0 s (.tuple #[.slice none 0 0, .int .i64 2]) w := ⟨_, by rw [h]; exact OwnB.nil _ _, by rw [dE_none h]⟩
theorem DecR.some {B0 : Nat} {s x : B} {v : Value} {w : World} (h : dec s = some x) (hO : OwnB B0 v x w) : DecR B0 s (.tuple #[v, .int .i64 0]) w := ⟨_, by rw [h]; exact hO, by rw [dE_some h]⟩
set_option maxRecDepth 100000 in
set_option maxHeartbeats 4000000 in
theorem decode_any (v : Value) (l : B) (w : World) (hR : BRd v l w) (hE : Env w) (hl : l.length ≤ 1000000) : Calls Tryd.prog 15 #[v] w fun e w' => ∃ xv, e = .returned xv ∧ DecR w.heap.size l xv w' ∧ Kept w w' := by
  obtain ⟨a, c, hv⟩ := hR.slice
  have hcv := hR.conv
  have HR := Lib.hid hR
  subst hv
  have HP := Lib.hid (rpl_any l w hE (by omega))
  have hrl := rpl_len l
  have HN := Lib.hid (fun (h : byt (rpl l) = none) => dec_byt rpl_enc h)
  have HX := Lib.hid (fun (x : B) (h : byt (rpl l) = some x) (hx : enc x ≠ l) => dec_not rpl_enc h hx)
  clear hR
  generalize rpl l = r at *
  go_enter Tryd.func15, Tryd.ntmps15
  go_wp2_with fail
  refine HP.out.mono ?_
  rintro e x1 ⟨rfl, k1⟩
  have K1 := Lib.hid k1
  clear HP hcv k1
  go_wp2_with fail
  refine (bytes_any r x1 (by omega)).mono ?_
  rintro e x2 ⟨xv, rfl, ⟨av, hO, rfl⟩, k2⟩
  have K2 := Lib.hid (K1.out.trans k2)
  have R2 := Lib.hid (HR.out.kept K2.out)
  have hO := own_mono hO K1.out.size
  clear k2 K1 HR
  cases h : byt r with
  | none =>
    have HB := Lib.hid (HN.out h)
    rw [bE_none h]
    obtain ⟨ta, tc, htv⟩ := own_slice hO
    subst htv
    clear HN HX hO h
    go_wp2
    go_ret2
    exact ⟨_, rfl, DecR.none HB.out _, K2.out⟩
  | some z =>
    have HX2 := Lib.hid (HX.out z h)
    have hzl := byt_len h
    rw [bE_some h]
    rw [h] at hO
    have hO : OwnB w.heap.size av z x2 := hO
    have HO := Lib.hid hO
    have HZ := Lib.hid hO.rd
    obtain ⟨ta, tc, htv⟩ := own_slice hO
    subst htv
    clear HN HX hO h
    go_wp2_with fail
    refine (encode_any _ z x2 HZ.out (by omega)).mono ?_
    rintro e x3 ⟨ev, rfl, hE3, k3⟩
    have K3 := Lib.hid (K2.out.trans k3)
    have O3 := Lib.hid (HO.out.kept k3)
    have R3 := Lib.hid (R2.out.kept k3)
    have E3 := Lib.hid hE3.rd
    obtain ⟨ea, ec, hev⟩ := own_slice hE3
    subst hev
    clear k3 HO HZ K2 R2 hE3
    go_wp2_with fail
    refine (equal_any _ _ (enc z) l x3 E3.out R3.out).mono ?_
    rintro e x4 ⟨rfl, rfl⟩
    by_cases hz : enc z = l
    · have HB := Lib.hid (dec_some hz)
      rw [show (enc z == l) = true by rw [hz]; exact beq_self_eq_true l]
      clear hz HX2
      go_wp2
      go_ret2
      exact ⟨_, rfl, DecR.some HB.out O3.out, K3.out⟩
    · have HB := Lib.hid (HX2.out hz)
      rw [show (enc z == l) = false from beq_eq_false_iff_ne.2 hz]
      clear HX2 hz
      go_wp2
      go_ret2
      exact ⟨_, rfl, DecR.none HB.out _, K3.out⟩
end Go.Proofs.YtcfheljkefceeaaDoor
