/- The chapter's example: what every law asks first. -/
import Derived.Test.YtlmjopembcifiaaDoorStRead
namespace Go.Proofs.YtlmjopembcifiaaDoor
open Go.ChangeShapes Go.WideShapes Go.ChangeAt Go.RowKit
open Civ
theorem ymd_a : yr 11016 = 2000 ∧ mo 11016 = 2 ∧ dy 11016 = 29 := ymd_of (by unfold okP; decide) (by decide)
theorem txt_a : txt 951782400 = [50, 48, 48, 48, 45, 48, 50, 45, 50, 57, 84, 48, 48, 58, 48, 48, 58, 48, 48, 90] := by
  unfold txt
  rw [show (951782400 : Int) / 86400 = 11016 by decide, ymd_a.1, ymd_a.2.1, ymd_a.2.2]
  decide
theorem mtx_a : mtx (951782400 + 3600) 3600 = [84, 117, 101, 44, 32, 50, 57, 32, 70, 101, 98, 32, 50, 48, 48, 48, 32, 48, 49, 58, 48, 48, 58, 48, 48, 32, 43, 48, 49, 48, 48] := by
  unfold mtx
  rw [show ((951782400 : Int) + 3600) / 86400 = 11016 by decide, ymd_a.1, ymd_a.2.1, ymd_a.2.2]
  decide
theorem parse_a : rparse [50, 48, 48, 48, 45, 48, 50, 45, 50, 57, 84, 48, 48, 58, 48, 48, 58, 48, 48, 90] = some 951782400 := by
  have h : rread [50, 48, 48, 48, 45, 48, 50, 45, 50, 57, 84, 48, 48, 58, 48, 48, 58, 48, 48, 90] = some ((2000, 2, 29, 0, 0, 0), 0) := by rfl
  unfold rparse
  rw [h]
  simp only [Option.bind_some]
  rw [if_pos (may_iff.2 ⟨by unfold okP; decide, by decide⟩)]
  decide
set_option maxHeartbeats 1000000 in
theorem awake_yes (w : World) (htab : Tab w) : Calls Tryd.prog 11 #[] w fun e w' => e = .returned (.bool true) ∧ Kept w w' := by
  have HT := Lib.hid htab; clear htab
  go_enter Tryd.func11, Tryd.ntmps11
  go_wp2_with fail
  refine (text_yes 951782400 _ (by unfold inCal; decide) HT.out).mono ?_
  rintro e w1 ⟨_, rfl, k1⟩
  rw [txt_a]
  go_wp2_with fail
  refine (parse_any [50, 48, 48, 48, 45, 48, 50, 45, 50, 57, 84, 48, 48, 58, 48, 48, 58, 48, 48, 90] _).mono ?_
  intro e w2 hp
  rw [parse_a] at hp
  obtain ⟨rfl, k2⟩ := hp
  go_wp2_with fail
  refine (mail_yes 951782400 3600 _ (by decide) (by decide) (by unfold inCal; decide) ((k1.trans k2).tab' HT.out)).mono ?_
  rintro e w3 ⟨_, rfl, k3⟩
  rw [mtx_a]
  have kk := Lib.hid ((k1.trans k2).trans k3)
  go_wp2
  go_ret
  exact ⟨rfl, kk.out⟩
end Go.Proofs.YtlmjopembcifiaaDoor
