/- Contracts of the document's reader of zones: times. -/
import Derived.Test.YtomnjdammfiadaaDoorZnRNum
import Derived.Test.YtomnjdammfiadaaDoorZnRdN
namespace Go.Proofs.YtomnjdammfiadaaDoor
open Go.ChangeShapes Go.WideShapes Go.ChangeAt Go.RowKit
open Zn
theorem nv_bd (l : List UInt8) (h : ∀ c ∈ l, dgt c = true) : 0 ≤ nv l ∧ nv l < 10 ^ l.length := by
  have key : ∀ (m : List UInt8) (n : Int) (k : Nat), (∀ c ∈ m, dgt c = true) → 0 ≤ n → n < 10 ^ k → 0 ≤ m.foldl (fun n c => 10 * n + ((c.toNat : Int) - 48)) n ∧ m.foldl (fun n c => 10 * n + ((c.toNat : Int) - 48)) n < 10 ^ (k + m.length) := by
    intro m
    induction m with
    | nil => intro n k _ h0 h1; exact ⟨h0, by simpa using h1⟩
    | cons c r ih =>
      intro n k hm h0 h1
      have hc := hm c (by simp)
      simp only [dgt, decide_eq_true_eq] at hc
      have := ih (10 * n + ((c.toNat : Int) - 48)) (k + 1) (fun x hx => hm x (by simp [hx])) (by omega) (by rw [Int.pow_succ]; omega)
      simp only [List.foldl_cons, List.length_cons]
      rw [show k + (r.length + 1) = k + 1 + r.length by omega]
      exact this
  have := key l 0 0 h (by omega) (by simp)
  simpa [nv] using this
theorem numR_bd (l : List UInt8) : 0 ≤ (numR l).1 ∧ (numR l).1 < 1000000 := by
  have h := nv_bd ((l.takeWhile dgt).take 6) (fun c hc => tw_all dgt l c (List.mem_of_mem_take hc))
  have hl : ((l.takeWhile dgt).take 6).length ≤ 6 := by rw [List.length_take]; omega
  have hp : (10 : Int) ^ ((l.takeWhile dgt).take 6).length ≤ 10 ^ 6 := by exact_mod_cast Nat.pow_le_pow_right (show 0 < 10 by omega) hl
  exact ⟨h.1, by show nv _ < _; omega⟩
theorem timR_eq (l : List UInt8) : timR l = if (skp 45 l).1 = true then (-(timRu (skp 45 l).2).1, (timRu (skp 45 l).2).2.1, (timRu (skp 45 l).2).2.2) else timRu (skp 45 l).2 := by
  unfold timR
  rcases skp 45 l with ⟨b, r⟩
  cases b <;> simp
theorem timRm_yes {n : Int} {l : List UInt8} {b : Bool} (h : (skp 58 l).1 = true) : timRm n l b = timRs (n + 60 * (numR (skp 58 l).2).1) (numR (skp 58 l).2).2.1 (b || (numR (skp 58 l).2).2.2) := by
  unfold timRm; rcases hk : skp 58 l with ⟨b, r⟩; rw [hk] at h; simp only at h; subst h; rfl
theorem timRm_no {n : Int} {l : List UInt8} {b : Bool} (h : (skp 58 l).1 = false) : timRm n l b = (n, (skp 58 l).2, b) := by
  unfold timRm; rcases hk : skp 58 l with ⟨b, r⟩; rw [hk] at h; simp only at h; subst h; rfl
theorem timRs_yes {n : Int} {l : List UInt8} {b : Bool} (h : (skp 58 l).1 = true) : timRs n l b = (n + (numR (skp 58 l).2).1, (numR (skp 58 l).2).2.1, b || (numR (skp 58 l).2).2.2) := by
  unfold timRs; rcases hk : skp 58 l with ⟨b, r⟩; rw [hk] at h; simp only at h; subst h; rfl
theorem timRs_no {n : Int} {l : List UInt8} {b : Bool} (h : (skp 58 l).1 = false) : timRs n l b = (n, (skp 58 l).2, b) := by
  unfold timRs; rcases hk : skp 58 l with ⟨b, r⟩; rw [hk] at h; simp only at h; subst h; rfl
set_option maxHeartbeats 2000000 in
theorem timeR_any (S l : List UInt8) (bad : Bool) (bk : Nat) (w : World) (h : Rr bk S l bad w) :
    Calls Tryd.prog 33 #[.pointer (some ⟨bk, 0, none⟩)] w (StepR (.int .i64 (timR l).1) S (timR l).2.1 (bad || (timR l).2.2) bk w) := by
  have H := Lib.hid h; clear h
  have TE := Lib.hid (timR_eq l)
  go_enter Tryd.func33, Tryd.ntmps33
  go_wp2_with fail
  refine (is_any 45 S l bad bk _ H.out).mono ?_
  rintro e w1 ⟨rfl, o1, r1⟩
  have O1 := Lib.hid o1; clear o1
  have R1 := Lib.hid r1; clear r1
  generalize (skp 45 l).1 = below at *
  generalize (skp 45 l).2 = la at *
  go_wp2_with fail
  refine (numberR_any S la bad bk _ R1.out).mono ?_
  rintro e w2 ⟨rfl, o2, r2⟩
  obtain ⟨a0, a1⟩ := numR_bd la
  have O2 := Lib.hid (O1.out.trans o2); clear o2 O1
  have R2 := Lib.hid r2; clear r2 R1
  have UE := Lib.hid (show timRu la = timRm (3600 * (numR la).1) (numR la).2.1 (numR la).2.2 from rfl)
  generalize (numR la).1 = na at *
  generalize (numR la).2.1 = lb at *
  generalize (numR la).2.2 = ba at *
  go_wp2_with fail
  refine (is_any 58 S lb _ bk _ R2.out).mono ?_
  rintro e w3 ⟨rfl, o3, r3⟩
  have O3 := Lib.hid (O2.out.trans o3); clear o3 O2
  have R3 := Lib.hid r3; clear r3 R2
  cases hm : (skp 58 lb).1 with
  | true =>
    have ME := Lib.hid (timRm_yes (n := 3600 * na) (b := ba) hm); clear hm
    generalize (skp 58 lb).2 = lc at *
    go_wp2_with fail
    refine (numberR_any S lc _ bk _ R3.out).mono ?_
    rintro e w4 ⟨rfl, o4, r4⟩
    obtain ⟨c0, c1⟩ := numR_bd lc
    have O4 := Lib.hid (O3.out.trans o4); clear o4 O3
    have R4 := Lib.hid r4; clear r4 R3
    generalize (numR lc).1 = nc at *
    generalize (numR lc).2.1 = ld at *
    generalize (numR lc).2.2 = bc at *
    go_wp2_with fail
    refine (is_any 58 S ld _ bk _ R4.out).mono ?_
    rintro e w5 ⟨rfl, o5, r5⟩
    have O5 := Lib.hid (O4.out.trans o5); clear o5 O4
    have R5 := Lib.hid r5; clear r5 R4
    cases hs : (skp 58 ld).1 with
    | true =>
      have SE := Lib.hid (timRs_yes (n := 3600 * na + 60 * nc) (b := ba || bc) hs); clear hs
      generalize (skp 58 ld).2 = le at *
      go_wp2_with fail
      refine (numberR_any S le _ bk _ R5.out).mono ?_
      rintro e w6 ⟨rfl, o6, r6⟩
      obtain ⟨e0, e1⟩ := numR_bd le
      have O6 := Lib.hid (O5.out.trans o6); clear o6 O5
      have R6 := Lib.hid r6; clear r6 R5
      generalize (numR le).1 = ne at *
      generalize (numR le).2.1 = lf at *
      generalize (numR le).2.2 = be at *
      have FE := Lib.hid (show timRu la = (3600 * na + 60 * nc + ne, lf, (ba || bc) || be) by rw [UE.out, ME.out, SE.out])
      clear UE ME SE
      cases below
      all_goals
        go_wp2
        go_ret
        rw [TE.out, FE.out]
        exact ⟨rfl, O6.out, by simpa [Bool.or_assoc] using R6.out⟩
    | false =>
      have SE := Lib.hid (timRs_no (n := 3600 * na + 60 * nc) (b := ba || bc) hs); clear hs
      generalize (skp 58 ld).2 = le at *
      have FE := Lib.hid (show timRu la = (3600 * na + 60 * nc, le, ba || bc) by rw [UE.out, ME.out, SE.out])
      clear UE ME SE
      cases below
      all_goals
        go_wp2
        go_ret
        rw [TE.out, FE.out]
        exact ⟨rfl, O5.out, by simpa [Bool.or_assoc] using R5.out⟩
  | false =>
    have ME := Lib.hid (timRm_no (n := 3600 * na) (b := ba) hm); clear hm
    generalize (skp 58 lb).2 = ld at *
    have FE := Lib.hid (show timRu la = (3600 * na, ld, ba) by rw [UE.out, ME.out])
    clear UE ME
    cases below
    all_goals
      go_wp2
      go_ret
      rw [TE.out, FE.out]
      exact ⟨rfl, O3.out, R3.out⟩
end Go.Proofs.YtomnjdammfiadaaDoor
