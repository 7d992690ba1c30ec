/- The contracts of package local and of the document's answer, side by side: one word for both. -/
import Derived.Test.YtcgmefojokndhaaLcRefG
import Derived.Test.YtcgmefojokndhaaLcInts
import Derived.Test.YtcgmefojokndhaaLcAwake
namespace Go.Proofs.Ytcgmefojokndhaa
open Go.ChangeShapes Go.WideShapes Go.ChangeAt Go.RowKit
open Civ Zn Lc
def shB (z : Zo) : Bool := decide (z.std.length ≤ 100) && decide (z.dst.length ≤ 100)
set_option maxRecDepth 100000 in
set_option maxHeartbeats 1000000 in
theorem short_any (z : Zo) (w : World) (h1 : z.std.length ≤ maxLen) (h2 : z.dst.length ≤ maxLen) : Calls Try.prog 10 #[zoV z] w fun e w' => e = .returned (.bool (shB z)) ∧ Kept w w' := by
  unfold maxLen at h1 h2
  have B0 := Lib.hid (bz_new w z)
  have K0 := Lib.hid ((Kept.refl w).alloc (.cells (zo15 z.std z.off z.has z.dst z.ahead z.fr.k z.fr.m z.fr.w z.fr.d z.fr.a z.to.k z.to.m z.to.w z.to.d z.to.a) 25))
  go_enter Try.func10, Try.ntmps10
  go_upto_region 1 with (fail)
  generalize w.alloc (.cells (zo15 z.std z.off z.has z.dst z.ahead z.fr.k z.fr.m z.fr.w z.fr.d z.fr.a z.to.k z.to.m z.to.w z.to.d z.to.a) 25) = x at *
  have c0 := B0.out.cs.c0
  have c3 := B0.out.cs.c3
  by_cases g1 : z.std.length ≤ 100
  · by_cases g2 : z.dst.length ≤ 100
    · have HS := Lib.hid (show shB z = true by simp [shB, g1, g2])
      go_wp2
      go_ret
      exact ⟨ret_bool (show decide ((z.dst.length : Int) ≤ 100) = shB z by rw [HS.out]; simp; omega), K0.out⟩
    · have HS := Lib.hid (show shB z = false by simp [shB]; omega)
      go_wp2
      go_ret
      exact ⟨ret_bool (show decide ((z.dst.length : Int) ≤ 100) = shB z by rw [HS.out]; simp; omega), K0.out⟩
  · have HS := Lib.hid (show shB z = false by simp [shB]; omega)
    go_wp2
    go_ret
    exact ⟨by rw [HS.out]; rfl, K0.out⟩
def dA (r : Ru) (y : Int) : Int := if (yrB y && mayR r) = true then dayN r y else 0
def dE (r : Ru) (y : Int) : Int := if (yrB y && mayR r) = true then 0 else 1
theorem day_any (r : Ru) (y : Int) (w : World) : Calls Try.prog 11 #[ruV r, .int .i64 y] w fun e w' => e = .returned (.tuple #[.int .i64 (dA r y), .int .i64 (dE r y)]) ∧ Kept w w' := by
  unfold dA dE
  by_cases h : (yrB y && mayR r) = true
  · rw [if_pos h, if_pos h]; rw [Bool.and_eq_true] at h; exact day_yes r y w h.1 h.2
  · rw [if_neg h, if_neg h]; exact day_not r y w (Bool.eq_false_iff.2 h)
theorem rDay_any (r : Ru) (y : Int) (w : World) : Calls Try.prog 12 #[ruV r, .int .i64 y] w fun e w' => e = .returned (.tuple #[.int .i64 (dA r y), .int .i64 (dE r y)]) ∧ Kept w w' := by
  unfold dA dE
  by_cases h : (yrB y && mayR r) = true
  · rw [if_pos h, if_pos h]; rw [Bool.and_eq_true] at h; exact rDay_yes r y w h.1 h.2
  · rw [if_neg h, if_neg h]; exact rDay_not r y w (Bool.eq_false_iff.2 h)
def tOk (z : Zo) (y : Int) : Bool := mayZ z && z.has && yrB y
def tF (z : Zo) (y : Int) : Int := if tOk z y = true then fromT z y else 0
def tU (z : Zo) (y : Int) : Int := if tOk z y = true then uptoT z y else 0
def tE (z : Zo) (y : Int) : Int := if tOk z y = true then 0 else 1
theorem turns_any (z : Zo) (y : Int) (w : World) : Calls Try.prog 13 #[zoV z, .int .i64 y] w fun e w' => e = .returned (.tuple #[.int .i64 (tF z y), .int .i64 (tU z y), .int .i64 (tE z y)]) ∧ Kept w w' := by
  unfold tF tU tE
  by_cases h : tOk z y = true
  · rw [if_pos h, if_pos h, if_pos h]; unfold tOk at h; simp only [Bool.and_eq_true] at h; exact turns_yes z y w h.2 h.1.1 h.1.2
  · rw [if_neg h, if_neg h, if_neg h]; exact turns_not z y w (Bool.eq_false_iff.2 h)
theorem rTurns_any (z : Zo) (y : Int) (w : World) (l1 : z.std.length ≤ 1000) (l2 : z.dst.length ≤ 1000) : Calls Try.prog 14 #[zoV z, .int .i64 y] w fun e w' => e = .returned (.tuple #[.int .i64 (tF z y), .int .i64 (tU z y), .int .i64 (tE z y)]) ∧ Kept w w' := by
  unfold tF tU tE
  by_cases h : tOk z y = true
  · rw [if_pos h, if_pos h, if_pos h]; unfold tOk at h; simp only [Bool.and_eq_true] at h; exact rTurns_yes z y w l1 l2 h.2 h.1.1 h.1.2
  · rw [if_neg h, if_neg h, if_neg h]; exact rTurns_not z y w l1 l2 (Bool.eq_false_iff.2 h)
def oOk (z : Zo) (t : Int) : Bool := mayZ z && scB t
noncomputable def oA (z : Zo) (t : Int) : Int := if oOk z t = true then offP z t else 0
def oE (z : Zo) (t : Int) : Int := if oOk z t = true then 0 else 1
theorem off_any' (z : Zo) (t : Int) (w : World) : Calls Try.prog 15 #[zoV z, .int .i64 t] w fun e w' => e = .returned (.tuple #[.int .i64 (oA z t), .int .i64 (oE z t)]) ∧ Kept w w' := by
  unfold oA oE
  by_cases h : oOk z t = true
  · rw [if_pos h, if_pos h]; unfold oOk at h; rw [Bool.and_eq_true] at h; exact off_yes z t w h.1 h.2
  · rw [if_neg h, if_neg h]; exact off_not z t w (Bool.eq_false_iff.2 h)
theorem rOff_any (z : Zo) (t : Int) (w : World) (l1 : z.std.length ≤ 1000) (l2 : z.dst.length ≤ 1000) : Calls Try.prog 16 #[zoV z, .int .i64 t] w fun e w' => e = .returned (.tuple #[.int .i64 (oA z t), .int .i64 (oE z t)]) ∧ Kept w w' := by
  unfold oA oE
  by_cases h : oOk z t = true
  · rw [if_pos h, if_pos h]; unfold oOk at h; rw [Bool.and_eq_true] at h; exact rOff_yes z t w l1 l2 h.1 h.2
  · rw [if_neg h, if_neg h]; exact rOff_not z t w l1 l2 (Bool.eq_false_iff.2 h)
/-- the day and time there, or none -/
structure Six where
  y : Int
  m : Int
  d : Int
  h : Int
  i : Int
  s : Int
def AtOk (z : Zo) (t : Int) : Prop := oOk z t = true ∧ inCal (t + offP z t)
open Classical in
noncomputable def atS (z : Zo) (t : Int) : Six := if AtOk z t then ⟨yr ((t + offP z t) / 86400), mo ((t + offP z t) / 86400), dy ((t + offP z t) / 86400), (t + offP z t) % 86400 / 3600, (t + offP z t) % 3600 / 60, (t + offP z t) % 60⟩ else ⟨0, 0, 0, 0, 0, 0⟩
open Classical in
noncomputable def atE (z : Zo) (t : Int) : Int := if AtOk z t then 0 else 1
abbrev sixV (c : Six) : Value := civ c.y c.m c.d c.h c.i c.s
def AtAny (z : Zo) (t : Int) (w : World) (e : Ending) (w' : World) : Prop := e = .returned (.tuple #[sixV (atS z t), .int .i64 (atE z t)]) ∧ Kept w w' ∧ (AtOk z t → Day ((t + offP z t) / 86400))
theorem at_any' (z : Zo) (t : Int) (w : World) : Calls Try.prog 17 #[zoV z, .int .i64 t] w (AtAny z t w) := by
  unfold AtAny atS atE
  by_cases h : AtOk z t
  · rw [if_pos h, if_pos h]
    have ho := h.1; unfold oOk at ho; rw [Bool.and_eq_true] at ho
    exact (lat_yes z t w ho.1 ho.2 h.2).mono fun e w' ⟨hD, he, hk⟩ => ⟨he, hk, fun _ => hD⟩
  · rw [if_neg h, if_neg h]
    by_cases ho : oOk z t = true
    · have hc : ¬ inCal (t + offP z t) := fun q => h ⟨ho, q⟩
      unfold oOk at ho; rw [Bool.and_eq_true] at ho
      exact (lat_out z t w ho.1 ho.2 hc).mono fun e w' ⟨he, hk⟩ => ⟨he, hk, fun q => absurd q h⟩
    · exact (lat_not z t w (Bool.eq_false_iff.2 ho)).mono fun e w' ⟨he, hk⟩ => ⟨he, hk, fun q => absurd q h⟩
theorem rAt_any (z : Zo) (t : Int) (w : World) (l1 : z.std.length ≤ 1000) (l2 : z.dst.length ≤ 1000) : Calls Try.prog 18 #[zoV z, .int .i64 t] w (AtAny z t w) := by
  unfold AtAny atS atE
  by_cases h : AtOk z t
  · rw [if_pos h, if_pos h]
    have ho := h.1; unfold oOk at ho; rw [Bool.and_eq_true] at ho
    exact (rAt_yes z t w l1 l2 ho.1 ho.2 h.2).mono fun e w' ⟨hD, he, hk⟩ => ⟨he, hk, fun _ => hD⟩
  · rw [if_neg h, if_neg h]
    by_cases ho : oOk z t = true
    · have hc : ¬ inCal (t + offP z t) := fun q => h ⟨ho, q⟩
      unfold oOk at ho; rw [Bool.and_eq_true] at ho
      exact (rAt_out z t w l1 l2 ho.1 ho.2 hc).mono fun e w' ⟨he, hk⟩ => ⟨he, hk, fun q => absurd q h⟩
    · exact (rAt_not z t w l1 l2 (Bool.eq_false_iff.2 ho)).mono fun e w' ⟨he, hk⟩ => ⟨he, hk, fun q => absurd q h⟩
def CivOk (z : Zo) (c : Six) : Prop := mayZ z = true ∧ okP c.y c.m c.d ∧ tmB c.h c.i c.s = true ∧ 1970 ≤ c.y ∧ c.y ≤ 9998
abbrev sixN (c : Six) : Int := sec c.y c.m c.d c.h c.i c.s
open Classical in
noncomputable def ofS (z : Zo) (c : Six) : List Int := if CivOk z c then ofL z (sixN c) else []
open Classical in
noncomputable def ofE (z : Zo) (c : Six) : Int := if CivOk z c then 0 else 1
def OfAny (z : Zo) (c : Six) (w : World) (e : Ending) (w' : World) : Prop := ∃ ao cap, e = .returned (.tuple #[.slice ao (ofS z c).length cap, .int .i64 (ofE z c)]) ∧ Out w.heap.size (.slice ao (ofS z c).length cap) (ofS z c) w' ∧ Kept w w'
theorem of_any (z : Zo) (c : Six) (w : World) : Calls Try.prog 19 #[zoV z, sixV c] w (OfAny z c w) := by
  unfold OfAny ofS ofE
  by_cases h : CivOk z c
  · rw [if_pos h, if_pos h]
    refine (lof_yes z c.y c.m c.d c.h c.i c.s w h.1 h.2.1 h.2.2.1 h.2.2.2.1 h.2.2.2.2).mono ?_
    rintro e w' ⟨v, he, ho, hk⟩
    obtain ⟨ao, cap, rfl⟩ := ho.slice
    exact ⟨ao, cap, he, ho, hk⟩
  · rw [if_neg h, if_neg h]
    refine (lof_not z c.y c.m c.d c.h c.i c.s w h).mono ?_
    rintro e w' ⟨he, hk⟩
    exact ⟨none, 0, he, World.ownsRow_nil _ _ _ _, hk⟩
theorem rOf_any (z : Zo) (c : Six) (w : World) (l1 : z.std.length ≤ 1000) (l2 : z.dst.length ≤ 1000) : Calls Try.prog 20 #[zoV z, sixV c] w (OfAny z c w) := by
  unfold OfAny ofS ofE
  by_cases h : CivOk z c
  · rw [if_pos h, if_pos h]
    refine (rlof_yes z c.y c.m c.d c.h c.i c.s w l1 l2 h.1 h.2.1 h.2.2.1 h.2.2.2.1 h.2.2.2.2).mono ?_
    rintro e w' ⟨v, he, ho, hk⟩
    obtain ⟨ao, cap, rfl⟩ := ho.slice
    exact ⟨ao, cap, he, ho, hk⟩
  · rw [if_neg h, if_neg h]
    refine (rlof_not z c.y c.m c.d c.h c.i c.s w l1 l2 h).mono ?_
    rintro e w' ⟨he, hk⟩
    exact ⟨none, 0, he, World.ownsRow_nil _ _ _ _, hk⟩
end Go.Proofs.Ytcgmefojokndhaa
