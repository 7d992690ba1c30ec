/- Contracts of package stamp: the reader's fraction, and how far its clock is ahead. -/
import Derived.Test.YtlmjopembcifiaaDoorStCiv
namespace Go.Proofs.YtlmjopembcifiaaDoor
open Go.ChangeShapes Go.WideShapes Go.ChangeAt Go.RowKit
open Civ
def digs : List UInt8 := [48, 49, 50, 51, 52, 53, 54, 55, 56, 57]
/-- a part of a second, if there is one -/
def rfrac : List UInt8 → Option (List UInt8)
  | [] => some []
  | b :: r => if b = 46 then (rnum 1 0 r).map (fun p => Lib.trimLeftS p.2 digs) else some (b :: r)
def FracPost (o : Option (List UInt8)) (bk : Nat) (w : World) (e : Ending) (w' : World) : Prop :=
  match o with
  | none => e = .panicked [{ v := faultV, recovered := false }] ∧ Only bk w w'
  | some r => e = .returned (.tuple #[]) ∧ Only bk w w' ∧ w'.cell? ⟨bk, 0, none⟩ = some (.string ⟨r.toArray⟩)
theorem Only.of_kept {bk : Nat} {w w' : World} (h : Kept w w') (hb : bk < w.heap.size) : Only bk w w' :=
  ⟨h.os, h.output, h.size, fun k hk _ => h.block k hk, h.frozen hb⟩
theorem prefix_any (l : List UInt8) (w : World) :
    Calls Tryd.prog 64 #[.string ⟨l.toArray⟩, .string ⟨#[46]⟩] w fun e w' => e = .returned (.bool (Lib.hasPrefix l [46])) ∧ w = w' := by
  refine (Tryd.strings_HasPrefix _ _ _).mono ?_
  rintro e w1 ⟨rfl, rfl⟩
  exact ⟨rfl, rfl⟩
theorem trim_any (l : List UInt8) (w : World) :
    Calls Tryd.prog 70 #[.string ⟨l.toArray⟩, .string ⟨#[48, 49, 50, 51, 52, 53, 54, 55, 56, 57]⟩] w fun e w' => e = .returned (.string ⟨(Lib.trimLeftS l digs).toArray⟩) ∧ Kept w w' := by
  refine (Tryd.strings_TrimLeft_laid ⟨l.toArray⟩ ⟨#[48, 49, 50, 51, 52, 53, 54, 55, 56, 57]⟩ w (by decide) (Go.Proofs.ascii_of_all (by decide))).mono ?_
  rintro e w1 ⟨rfl, hb⟩
  exact ⟨rfl, Kept.of_below hb⟩
set_option maxHeartbeats 1000000 in
theorem frac_any (l : List UInt8) (bk : Nat) (w : World) (hb : bk < w.heap.size) (hc : w.cell? ⟨bk, 0, none⟩ = some (.string ⟨l.toArray⟩)) (hf : w.frozen? ⟨bk, 0, none⟩ = false) :
    Calls Tryd.prog 57 #[.pointer (some ⟨bk, 0, none⟩)] w (FracPost (rfrac l) bk w) := by
  have HB := Lib.hid hb; clear hb
  by_cases h : ∃ r, l = 46 :: r
  · obtain ⟨r, rfl⟩ := h
    have hp : Lib.hasPrefix (46 :: r) [46] = true := by simp [Lib.hasPrefix, List.isPrefixOf]
    go_enter Tryd.func57, Tryd.ntmps57
    go_wp2_with fail
    refine (prefix_any _ _).mono ?_
    rintro e w1 ⟨rfl, rfl⟩
    rw [hp]
    go_wp2_with fail
    refine (sign_yes [46] 46 r bk _ hc hf rfl).mono ?_
    rintro e w1 ⟨rfl, o1, c1⟩
    have f1 := o1.frozen.trans hf
    go_wp2_with fail
    refine (num_1 r bk _ c1 f1).mono ?_
    intro e w2 hp2
    rcases hr : rnum 1 0 r with _ | ⟨v, r2⟩
    · rw [hr] at hp2
      obtain ⟨rfl, ho⟩ := hp2
      refine ⟨rfl, ?_⟩
      show FracPost (rfrac (46 :: r)) bk w _ _
      rw [show rfrac (46 :: r) = none by simp [rfrac, hr]]
      exact ⟨rfl, o1.trans ho⟩
    rw [hr] at hp2
    obtain ⟨rfl, o2, c2⟩ := hp2
    have f2 := o2.frozen.trans f1
    have HR := Lib.hid hr; clear hr
    go_wp2_with fail
    refine (trim_any r2 _).mono ?_
    rintro e w3 ⟨rfl, k3⟩
    have hb2 : bk < w2.heap.size := Nat.lt_of_lt_of_le HB.out (Nat.le_trans o1.size o2.size)
    have c3 := (k3.cell (a := ⟨bk, 0, none⟩) hb2).trans c2
    have f3 := (k3.frozen (a := ⟨bk, 0, none⟩) hb2).trans f2
    have O3 := Lib.hid ((o1.trans o2).trans (Only.of_kept k3 hb2))
    clear k3 hb2
    go_wp2
    go_end0
    rw [show rfrac (46 :: r) = some (Lib.trimLeftS r2 digs) by simp [rfrac, HR.out]]
    exact ⟨rfl, O3.out.trans (Only.set _ _ _), World.cell?_setCell_same _ _ _ c3⟩
  · have hp : Lib.hasPrefix l [46] = false := by
      cases l with
      | nil => rfl
      | cons b r => simp [Lib.hasPrefix, List.isPrefixOf]; exact fun hb => h ⟨r, by rw [← hb]⟩
    have hr := Lib.hid (show rfrac l = some l by
      cases l with
      | nil => rfl
      | cons b r => rw [rfrac, if_neg (fun hb => h ⟨r, by rw [hb]⟩)])
    clear h
    go_enter Tryd.func57, Tryd.ntmps57
    go_wp2_with fail
    refine (prefix_any _ _).mono ?_
    rintro e w1 ⟨rfl, rfl⟩
    rw [hp]
    go_wp2
    first | go_end0 | refine bodyPost_ret (results_none rfl _ _ _) rfl ?_
    rw [hr.out]
    exact ⟨rfl, Only.refl _ _, hc⟩

/-- what stands behind the seconds -/
def rzone (l : List UInt8) : Option (Int × List UInt8) :=
  (rsign [90, 122, 43, 45] l).bind fun a1 => if a1.1 = 90 ∨ a1.1 = 122 then some (0, a1.2) else
    (rnum 2 0 a1.2).bind fun a2 => (rsign [58] a2.2).bind fun a3 => (rnum 2 0 a3.2).bind fun a4 =>
      if tmB a2.1 a4.1 0 = true then some (if a1.1 = 45 then -(a2.1 * 3600 + a4.1 * 60) else a2.1 * 3600 + a4.1 * 60, a4.2) else none
theorem u8_eq (c : UInt8) (k : Nat) (hk : k < 256) : ((c.toNat : Int) = (k : Int)) ↔ c = UInt8.ofNat k := by
  constructor
  · intro h
    have h' : c.toNat = k := by omega
    rw [← h']; simp
  · rintro rfl
    simp; omega
set_option maxHeartbeats 2000000 in
theorem ahead_any (l : List UInt8) (bk : Nat) (w : World) (hc : w.cell? ⟨bk, 0, none⟩ = some (.string ⟨l.toArray⟩)) (hf : w.frozen? ⟨bk, 0, none⟩ = false) :
    Calls Tryd.prog 58 #[.pointer (some ⟨bk, 0, none⟩)] w (NumPost (rzone l) bk w) := by
  go_enter Tryd.func58, Tryd.ntmps58
  go_wp2_with fail
  refine (sign_any [90, 122, 43, 45] l bk _ hc hf).mono ?_
  intro e w1 hp
  rcases h1 : rsign [90, 122, 43, 45] l with _ | ⟨c, l1⟩
  · rw [h1] at hp
    obtain ⟨rfl, ho⟩ := hp
    refine ⟨rfl, ?_⟩
    show NumPost (rzone l) bk w _ _
    rw [show rzone l = none by simp only [rzone, h1, Option.bind_none]]
    exact ⟨rfl, ho⟩
  rw [h1] at hp
  obtain ⟨rfl, o1, c1⟩ := hp
  have f1 := o1.frozen.trans hf
  have H1 := Lib.hid h1; clear h1
  by_cases hz : c = 90 ∨ c = 122
  · have HZ := Lib.hid (show rzone l = some (0, l1) by simp only [rzone, H1.out, Option.bind_some, if_pos hz])
    rcases hz with rfl | rfl
    · go_wp2
      go_ret
      rw [HZ.out]
      exact ⟨rfl, o1, c1⟩
    · go_wp2
      go_ret
      rw [HZ.out]
      exact ⟨rfl, o1, c1⟩
  · have z1 : ¬ (c.toNat : Int) = 90 := fun h => hz (Or.inl ((u8_eq c 90 (by omega)).1 h))
    have z2 : ¬ (c.toNat : Int) = 122 := fun h => hz (Or.inr ((u8_eq c 122 (by omega)).1 h))
    have z1' : ((c.toNat : Int) == 90) = false := by simpa using z1
    have z2' : ((c.toNat : Int) == 122) = false := by simpa using z2
    clear z1 z2
    have HZ := Lib.hid hz; clear hz
    go_wp2_with fail
    refine (num_2 l1 bk _ c1 f1).mono ?_
    intro e w2 hp
    rcases h2 : rnum 2 0 l1 with _ | ⟨h, l2⟩
    · rw [h2] at hp
      obtain ⟨rfl, ho⟩ := hp
      refine ⟨rfl, ?_⟩
      show NumPost (rzone l) bk w _ _
      rw [show rzone l = none by simp only [rzone, H1.out, h2, Option.bind_none, Option.bind_some, if_neg HZ.out]]
      exact ⟨rfl, o1.trans ho⟩
    rw [h2] at hp
    obtain ⟨rfl, o2, c2⟩ := hp
    have f2 := o2.frozen.trans f1
    have H2 := Lib.hid h2; clear h2
    go_wp2_with fail
    refine (sign_any [58] l2 bk _ c2 f2).mono ?_
    intro e w3 hp
    rcases h3 : rsign [58] l2 with _ | ⟨b3, l3⟩
    · rw [h3] at hp
      obtain ⟨rfl, ho⟩ := hp
      refine ⟨rfl, ?_⟩
      show NumPost (rzone l) bk w _ _
      rw [show rzone l = none by simp only [rzone, H1.out, H2.out, h3, Option.bind_none, Option.bind_some, if_neg HZ.out]]
      exact ⟨rfl, (o1.trans o2).trans ho⟩
    rw [h3] at hp
    obtain ⟨rfl, o3, c3⟩ := hp
    have f3 := o3.frozen.trans f2
    have H3 := Lib.hid h3; clear h3
    go_wp2_with fail
    refine (num_2 l3 bk _ c3 f3).mono ?_
    intro e w4 hp
    rcases h4 : rnum 2 0 l3 with _ | ⟨m, l4⟩
    · rw [h4] at hp
      obtain ⟨rfl, ho⟩ := hp
      refine ⟨rfl, ?_⟩
      show NumPost (rzone l) bk w _ _
      rw [show rzone l = none by simp only [rzone, H1.out, H2.out, H3.out, h4, Option.bind_none, Option.bind_some, if_neg HZ.out]]
      exact ⟨rfl, ((o1.trans o2).trans o3).trans ho⟩
    rw [h4] at hp
    obtain ⟨rfl, o4, c4⟩ := hp
    have H4 := Lib.hid h4; clear h4
    have O4 := Lib.hid (((o1.trans o2).trans o3).trans o4)
    clear o1 o2 o3 o4 c1 c2 c3 f1 f2 f3
    go_wp2_with fail
    refine (isTime_any h m 0 _).mono ?_
    rintro e w5 ⟨rfl, rfl⟩
    cases ht : tmB h m 0 with
    | false =>
      go_wp2
      refine ⟨rfl, ?_⟩
      show NumPost (rzone l) bk w _ _
      rw [show rzone l = none by simp only [rzone, H1.out, H2.out, H3.out, H4.out, Option.bind_some, if_neg HZ.out, ht, Bool.false_eq_true, if_false]]
      exact ⟨rfl, O4.out⟩
    | true =>
      obtain ⟨t1, t2, t3, t4, _, _⟩ := tm_bd ht
      by_cases h45 : c = 45
      · have e45 : ((c.toNat : Int) == 45) = true := by rw [h45]; decide
        have HR := Lib.hid (show rzone l = some (-(h * 3600 + m * 60), l4) by simp only [rzone, H1.out, H2.out, H3.out, H4.out, Option.bind_some, if_neg HZ.out, ht, if_true, if_pos h45])
        clear ht h45
        go_wp2
        go_ret
        rw [HR.out]
        exact ⟨rfl, O4.out, c4⟩
      · have e45 : ((c.toNat : Int) == 45) = false := by simpa using fun hh => h45 ((u8_eq c 45 (by omega)).1 hh)
        have HR := Lib.hid (show rzone l = some (h * 3600 + m * 60, l4) by simp only [rzone, H1.out, H2.out, H3.out, H4.out, Option.bind_some, if_neg HZ.out, ht, if_true, if_neg h45])
        clear ht h45
        go_wp2
        go_ret
        rw [HR.out]
        exact ⟨rfl, O4.out, c4⟩
end Go.Proofs.YtlmjopembcifiaaDoor
