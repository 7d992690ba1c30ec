/- Contracts of package zone: whether a zone may be. -/
import Derived.Test.YtomnjdammfiadaaDoorZnMay
namespace Go.Proofs.YtomnjdammfiadaaDoor
open Go.ChangeShapes Go.WideShapes Go.ChangeAt Go.RowKit
open Zn
theorem mayZ_no {std : List UInt8} {off : Int} {dst : List UInt8} {ahead : Int} {fr to : Ru} (h1 : mayN std = true) (h2 : wiB off (-89999) 89999 = true) :
    mayZ ⟨std, off, false, dst, ahead, fr, to⟩ = zoE ⟨std, off, false, dst, ahead, fr, to⟩ ⟨std, off, false, [], 0, ru0, ru0⟩ := by
  obtain ⟨fk, fm, fw, fd, fa⟩ := fr
  obtain ⟨tk, tm, tw, td, ta⟩ := to
  rw [Bool.eq_iff_iff, zoE_iff]
  simp [mayZ, h1, show offB off = true from h2, ru0, and_assoc]
set_option maxRecDepth 100000 in
set_option maxHeartbeats 2000000 in
theorem may_any (z : Zo) (w : World) :
    Calls Tryd.prog 13 #[zoV z] w fun e w' => e = .returned (.bool (mayZ z)) ∧ Kept w w' := by
  obtain ⟨std, off, has, dst, ahead, ⟨fk, fm, fw, fd, fa⟩, ⟨tk, tm, tw, td, ta⟩⟩ := z
  cases has with
  | false =>
    have hE : ∀ W, (binOp .eql 25 (.agg #[.string ⟨std.toArray⟩, .int .i64 off, .bool false, .string ⟨dst.toArray⟩, .int .i64 ahead, .int .i64 fk, .int .i64 fm, .int .i64 fw, .int .i64 fd, .int .i64 fa, .int .i64 tk, .int .i64 tm, .int .i64 tw, .int .i64 td, .int .i64 ta]) (.agg #[.string ⟨std.toArray⟩, .int .i64 off, .bool false, .string ⟨#[]⟩, .int .i64 0, .int .i64 0, .int .i64 0, .int .i64 0, .int .i64 0, .int .i64 0, .int .i64 0, .int .i64 0, .int .i64 0, .int .i64 0, .int .i64 0])).run Tryd.prog W = .ok (.bool (zoE ⟨std, off, false, dst, ahead, ⟨fk, fm, fw, fd, fa⟩, ⟨tk, tm, tw, td, ta⟩⟩ ⟨std, off, false, [], 0, ru0, ru0⟩)) W := fun W => eql_zone ⟨std, off, false, dst, ahead, ⟨fk, fm, fw, fd, fa⟩, ⟨tk, tm, tw, td, ta⟩⟩ ⟨std, off, false, [], 0, ru0, ru0⟩ W
    go_enter Tryd.func13, Tryd.ntmps13
    go_wp2_with fail
    refine (mayName_any std _).mono ?_
    rintro e w1 ⟨rfl, rfl⟩
    cases h1 : mayN std with
    | false =>
      go_wp2
      go_ret
      exact ⟨ret_bool (by simp [mayZ, h1]), (Kept.refl _).alloc _⟩
    | true =>
      go_wp2_with fail
      refine (within_any _ _ _ _).mono ?_
      rintro e w1 ⟨rfl, rfl⟩
      cases h2 : wiB off (-89999) 89999 with
      | false =>
        go_wp2
        go_ret
        exact ⟨ret_bool (by simp [mayZ, h1, show offB off = false from h2]), (Kept.refl _).alloc _⟩
      | true =>
        go_wp2
        go_ret
        exact ⟨ret_bool (by rw [show mayZ ⟨std, off, false, dst, ahead, ⟨fk, fm, fw, fd, fa⟩, ⟨tk, tm, tw, td, ta⟩⟩ = _ from mayZ_no h1 h2]), (Kept.refl _).alloc _⟩
  | true =>
    go_enter Tryd.func13, Tryd.ntmps13
    go_wp2_with fail
    refine (mayName_any std _).mono ?_
    rintro e w1 ⟨rfl, rfl⟩
    cases h1 : mayN std with
    | false =>
      go_wp2
      go_ret
      exact ⟨ret_bool (by simp [mayZ, h1]), (Kept.refl _).alloc _⟩
    | true =>
      go_wp2_with fail
      refine (within_any _ _ _ _).mono ?_
      rintro e w1 ⟨rfl, rfl⟩
      cases h2 : wiB off (-89999) 89999 with
      | false =>
        go_wp2
        go_ret
        exact ⟨ret_bool (by simp [mayZ, h1, show offB off = false from h2]), (Kept.refl _).alloc _⟩
      | true =>
        have HZ := Lib.hid (show mayZ ⟨std, off, true, dst, ahead, ⟨fk, fm, fw, fd, fa⟩, ⟨tk, tm, tw, td, ta⟩⟩ = (mayN dst && (decide (ahead = off + 3600) || offB ahead) && mayR ⟨fk, fm, fw, fd, fa⟩ && mayR ⟨tk, tm, tw, td, ta⟩) by simp only [mayZ, h1, show offB off = true from h2, if_true, Bool.true_and])
        have HO := Lib.hid (off_bd (n := off) h2)
        go_wp2_with fail
        refine (mayName_any dst _).mono ?_
        rintro e w1 ⟨rfl, rfl⟩
        cases h3 : mayN dst with
        | false =>
          go_wp2
          go_ret
          exact ⟨ret_bool (by rw [HZ.out, h3]; rfl), (Kept.refl _).alloc _⟩
        | true =>
          go_wp2_with fail
          refine (mayAhead_any ⟨std, off, true, dst, ahead, ⟨fk, fm, fw, fd, fa⟩, ⟨tk, tm, tw, td, ta⟩⟩ _ HO.out.1 HO.out.2).mono ?_
          rintro e w1 ⟨rfl, k1⟩
          cases h4 : (decide (ahead = off + 3600) || offB ahead) with
          | false =>
            have kb := k1.back; clear k1
            go_wp2
            go_ret
            exact ⟨ret_bool (by rw [HZ.out, h3, h4]; rfl), kb⟩
          | true =>
            have c5 := k1.new 5 rfl
            have c6 := k1.new 6 rfl
            have c7 := k1.new 7 rfl
            have c8 := k1.new 8 rfl
            have c9 := k1.new 9 rfl
            go_wp2_with fail
            refine (mayRule_any ⟨fk, fm, fw, fd, fa⟩ _).mono ?_
            rintro e w2 ⟨rfl, k2⟩
            clear c5 c6 c7 c8 c9
            cases h5 : mayR ⟨fk, fm, fw, fd, fa⟩ with
            | false =>
              have kb := (k1.trans k2).back; clear k1 k2
              go_wp2
              go_ret
              exact ⟨ret_bool (by rw [HZ.out, h3, h4, h5]; rfl), kb⟩
            | true =>
              have k12 := k1.trans k2; clear k1 k2
              have c5 := k12.new 10 rfl
              have c6 := k12.new 11 rfl
              have c7 := k12.new 12 rfl
              have c8 := k12.new 13 rfl
              have c9 := k12.new 14 rfl
              have kb := k12.back; clear k12
              go_wp2_with fail
              refine (mayRule_any ⟨tk, tm, tw, td, ta⟩ _).mono ?_
              rintro e w3 ⟨rfl, k3⟩
              clear c5 c6 c7 c8 c9
              go_wp2
              go_ret
              exact ⟨ret_bool (by rw [HZ.out, h3, h4, h5]; rfl), kb.trans k3⟩
end Go.Proofs.YtomnjdammfiadaaDoor
