/- The law ZoneParses, walked. -/
import Derived.Test.YtomnjdammfiadaaDoorZnBack
import Derived.Test.YtomnjdammfiadaaDoorZnRPrs
namespace Go.Proofs.YtomnjdammfiadaaDoor
open Go.ChangeShapes Go.WideShapes Go.ChangeAt Go.RowKit
open Zn
set_option maxRecDepth 100000 in
set_option maxHeartbeats 4000000 in
theorem parses_of (l : List UInt8) (hl : l.length ≤ 200) (z : Zo) (n : Int) (w : World) (htab : Tab w)
    (hA : ∀ x, Tab x → Calls Tryd.prog 14 #[.string ⟨l.toArray⟩] x fun e x' => e = .returned (.tuple #[zoV z, .int .i64 n]) ∧ Kept x x')
    (hB : ∀ x, Calls Tryd.prog 15 #[.string ⟨l.toArray⟩] x fun e x' => e = .returned (.tuple #[zoV z, .int .i64 n]) ∧ Kept x x') :
    Calls Tryd.prog 4 #[.string ⟨l.toArray⟩] w fun e w' => e = .returned (.bool true) ∧ Kept w w' := by
  have HT := Lib.hid htab; clear htab
  have HA := Lib.hid hA; clear hA
  have HB := Lib.hid hB; clear hB
  have hE : ∀ W, (binOp .eql 25 (.agg (zo15 z.std z.off z.has z.dst z.ahead z.fr.k z.fr.m z.fr.w z.fr.d z.fr.a z.to.k z.to.m z.to.w z.to.d z.to.a)) (.agg (zo15 z.std z.off z.has z.dst z.ahead z.fr.k z.fr.m z.fr.w z.fr.d z.fr.a z.to.k z.to.m z.to.w z.to.d z.to.a))).run Tryd.prog W = .ok (.bool true) W := fun W => (eql_zone z z W).trans (by rw [zoE_refl])
  go_enter Tryd.func4, Tryd.ntmps4
  go_wp2_with fail
  refine (awake_yes _ HT.out).mono ?_
  rintro e w1 ⟨rfl, k1⟩
  have K1 := Lib.hid k1; clear k1
  go_wp2_with fail
  refine (HA.out _ (K1.out.tab' HT.out)).mono ?_
  rintro e w2 ⟨rfl, k2⟩
  have K2 := Lib.hid ((K1.out.trans k2).alloc (.cells (zo15 z.std z.off z.has z.dst z.ahead z.fr.k z.fr.m z.fr.w z.fr.d z.fr.a z.to.k z.to.m z.to.w z.to.d z.to.a) 25))
  have N2 := Lib.hid (bz_new w2 z)
  clear k2 K1
  go_wp2_with fail
  generalize w2.alloc (.cells (zo15 z.std z.off z.has z.dst z.ahead z.fr.k z.fr.m z.fr.w z.fr.d z.fr.a z.to.k z.to.m z.to.w z.to.d z.to.a) 25) = x2 at *
  generalize w2.heap.size = b2 at *
  refine (HB.out _).mono ?_
  rintro e w3 ⟨rfl, k3⟩
  have K3 := Lib.hid ((K2.out.trans k3).alloc (.cells (zo15 z.std z.off z.has z.dst z.ahead z.fr.k z.fr.m z.fr.w z.fr.d z.fr.a z.to.k z.to.m z.to.w z.to.d z.to.a) 25))
  have N3 := Lib.hid (bz_new w3 z)
  have M3 := Lib.hid ((N2.out.kept k3).kept ((Kept.refl w3).alloc (.cells (zo15 z.std z.off z.has z.dst z.ahead z.fr.k z.fr.m z.fr.w z.fr.d z.fr.a z.to.k z.to.m z.to.w z.to.d z.to.a) 25)))
  clear k3 K2 N2
  go_upto_region 6 with (fail)
  generalize w3.alloc (.cells (zo15 z.std z.off z.has z.dst z.ahead z.fr.k z.fr.m z.fr.w z.fr.d z.fr.a z.to.k z.to.m z.to.w z.to.d z.to.a) 25) = x3 at *
  generalize w3.heap.size = b3 at *
  go_wp2_with (first | (refine wpList_load_row rfl 25 _ rfl b2 rfl 25 _ (0, 0) _ M3.out Tryd.underlying25 rfl (by kernel_rfl) ?_) | (refine wpList_load_row rfl 25 _ rfl b3 rfl 25 _ (0, 0) _ N3.out Tryd.underlying25 rfl (by kernel_rfl) ?_))
  go_ret
  exact ⟨rfl, K3.out⟩
set_option maxRecDepth 100000 in
set_option maxHeartbeats 4000000 in
theorem parses_far (l : List UInt8) (w : World) (htab : Tab w) (hl : 200 < l.length) :
    Calls Tryd.prog 4 #[.string ⟨l.toArray⟩] w fun e w' => e = .returned (.bool true) ∧ Kept w w' := by
  have HT := Lib.hid htab; clear htab
  go_enter Tryd.func4, Tryd.ntmps4
  go_wp2_with fail
  refine (awake_yes _ HT.out).mono ?_
  rintro e w1 ⟨rfl, k1⟩
  go_wp2
  go_ret
  exact ⟨rfl, k1⟩
theorem walkParses (l : List UInt8) (w : World) (htab : Tab w) :
    Calls Tryd.prog 4 #[.string ⟨l.toArray⟩] w fun e w' => e = .returned (.bool true) ∧ Kept w w' := by
  by_cases hl : 200 < l.length
  · exact parses_far l w htab hl
  by_cases ho : 100 < l.length
  · exact parses_of l (by omega) zo0 4 w htab (fun x _ => parse_over l x ho) (fun x => parseR_over l x ho)
  cases hp : prs l with
  | none =>
    refine parses_of l (by omega) zo0 2 w htab (fun x hx => (parse_any l x (by omega) hx).mono ?_) (fun x => (parseR_any l x (by omega)).mono ?_)
    · intro e x' h; rw [hp] at h; exact h
    · intro e x' h; rw [prsR_eq, hp] at h; exact h
  | some q =>
    refine parses_of l (by omega) q 0 w htab (fun x hx => (parse_any l x (by omega) hx).mono ?_) (fun x => (parseR_any l x (by omega)).mono ?_)
    · intro e x' h; rw [hp] at h; exact h
    · intro e x' h; rw [prsR_eq, hp] at h; exact h
end Go.Proofs.YtomnjdammfiadaaDoor
