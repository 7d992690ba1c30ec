/- Several texts of this seat, one behind the other. -/
import Derived.Test.YtilgamjahediiaaGreatDoorBsSt
import Derived.Test.YtilgamjahediiaaGreatDoorCrCase
import Derived.WalkLawsBesides
import Derived.Deep.RegionHeld3
/- Contracts of package cron: the reader's signs and digits. -/
set_option linter.unusedVariables false
namespace Go.Proofs.YtilgamjahediiaaGreatDoor
open Go.ChangeShapes Go.WideShapes Go.ChangeAt Go.RowKit
open Crn
/-- nothing has turned but a reader's text (blocks may have come behind) -/
structure Only (bk : Nat) (w w' : World) : Prop where
  os : w'.os = w.os
  output : w'.output = w.output
  tape : w'.tape = w.tape
  size : w.heap.size ≤ w'.heap.size
  block : ∀ k, k < w.heap.size → k ≠ bk → w'.heap[k]? = w.heap[k]?
  frozen : w'.frozen? ⟨bk, 0, none⟩ = w.frozen? ⟨bk, 0, none⟩
theorem Only.refl (bk : Nat) (w : World) : Only bk w w := ⟨rfl, rfl, rfl, Nat.le_refl _, fun _ _ _ => rfl, rfl⟩
theorem Only.trans {bk : Nat} {a b c : World} (h : Only bk a b) (k : Only bk b c) : Only bk a c :=
  ⟨k.os.trans h.os, k.output.trans h.output, k.tape.trans h.tape, Nat.le_trans h.size k.size, fun i hi hn => (k.block i (Nat.lt_of_lt_of_le hi h.size) hn).trans (h.block i hi hn), k.frozen.trans h.frozen⟩
theorem Only.set (bk : Nat) (w : World) (v : Value) : Only bk w (w.setCell ⟨bk, 0, none⟩ v) :=
  ⟨rfl, rfl, rfl, by simp [World.setCell], fun k hk hn => Below.heap_setCell _ _ _ _ hn, World.frozen?_setCell _ _ _ _⟩
theorem Only.kept {bk : Nat} {w w' : World} (h : Kept w w') (hb : bk < w.heap.size) : Only bk w w' :=
  ⟨h.os, h.output, h.tape, h.size, fun k hk _ => h.block k hk, h.frozen (a := ⟨bk, 0, none⟩) hb⟩
theorem lt_cell {w : World} {bk j : Nat} {v : Value} (h : w.cell? ⟨bk, j, none⟩ = some v) : bk < w.heap.size := by
  apply Classical.byContradiction
  intro hn
  unfold World.cell? at h
  rw [Array.getElem?_eq_none (by show w.heap.size ≤ bk; omega)] at h
  simp at h
theorem extract_mk (l : List UInt8) (a b : Nat) : (ByteArray.mk l.toArray).extract a b = ⟨((l.drop a).take (b - a)).toArray⟩ := by
  apply ByteArray.ext
  simp [ByteArray.data_extract, List.take_drop]
abbrev faultV : Value := .iface 112 (.agg #[.int .i64 2])
abbrev gone : Ending := .panicked [{ v := faultV, recovered := false }]
theorem need_yes (w : World) : Calls Tryz.prog 111 #[.bool true] w fun e w' => e = .returned (.tuple #[]) ∧ w = w' := by
  go_enter Tryz.func111, Tryz.ntmps111
  go_wp2
  exact bodyPost_end (v := .tuple #[]) (by simp [results, Tryz.results111]) rfl ⟨rfl, rfl⟩
theorem need_no (w : World) : Calls Tryz.prog 111 #[.bool false] w fun e w' => e = gone ∧ w = w' := by
  go_enter Tryz.func111, Tryz.ntmps111
  go_wp2
  exact ⟨rfl, rfl, rfl⟩
theorem need_not (b : Bool) (h : b = false) (w : World) : Calls Tryz.prog 111 #[.bool b] w fun e w' => e = gone ∧ w = w' := by subst h; exact need_no w
theorem need_ok (b : Bool) (h : b = true) (w : World) : Calls Tryz.prog 111 #[.bool b] w fun e w' => e = .returned (.tuple #[]) ∧ w = w' := by subst h; exact need_yes w
/-- a step of the reader: it takes something off the text, or panics -/
def RdPost (o : Option (Value × List UInt8)) (bk : Nat) (w : World) (e : Ending) (w' : World) : Prop :=
  match o with
  | none => e = gone ∧ Only bk w w'
  | some (v, r) => e = .returned v ∧ Only bk w w' ∧ w'.cell? ⟨bk, 0, none⟩ = some (.string ⟨r.toArray⟩)
theorem at0 (c : UInt8) (r : List UInt8) (h : 0 < (ByteArray.mk (c :: r).toArray).size) : (ByteArray.mk (c :: r).toArray)[0]'h = c := rfl
/-! One digit. -/
def hdD (l : List UInt8) : Bool := match l with | [] => false | a :: _ => isD a
theorem hasDigit_any (l : List UInt8) (bk : Nat) (w : World) (hc : w.cell? ⟨bk, 0, none⟩ = some (.string ⟨l.toArray⟩)) :
    Calls Tryz.prog 159 #[.pointer (some ⟨bk, 0, none⟩)] w fun e w' => e = .returned (.bool (hdD l)) ∧ w = w' := by
  cases l with
  | nil =>
    go_enter Tryz.func159, Tryz.ntmps159
    go_wp2
    go_ret
    exact ⟨rfl, rfl⟩
  | cons a r =>
    have hs : ¬ (ByteArray.mk (a :: r).toArray) = ⟨#[]⟩ := by intro h; injection h with h; simp at h
    have hb : hdD (a :: r) = (decide ((48 : Int) ≤ (a.toNat : Int)) && decide ((a.toNat : Int) ≤ 57)) := by
      show isD a = _
      unfold isD; rw [Bool.decide_and]; congr 1 <;> (apply decide_eq_decide.2; omega)
    by_cases h1 : (48 : Int) ≤ (a.toNat : Int)
    · by_cases h2 : (a.toNat : Int) ≤ 57
      all_goals
        have HB := Lib.hid hb; clear hb
        go_enter Tryz.func159, Tryz.ntmps159
        go_wp2
        go_ret
        refine ⟨ret_bool ?_, rfl⟩
        rw [HB.out]; simp [at0, h1, h2]
    · have HB := Lib.hid hb; clear hb
      go_enter Tryz.func159, Tryz.ntmps159
      go_wp2
      go_ret
      refine ⟨ret_bool ?_, rfl⟩
      rw [HB.out]; simp; intros; omega
theorem kdigit_any (a : UInt8) (r : List UInt8) (bk : Nat) (w : World) (hd : isD a = true) (hc : w.cell? ⟨bk, 0, none⟩ = some (.string ⟨(a :: r).toArray⟩)) (hf : w.frozen? ⟨bk, 0, none⟩ = false) :
    Calls Tryz.prog 160 #[.pointer (some ⟨bk, 0, none⟩)] w (RdPost (some (.int .i64 (dv a), r)) bk w) := by
  have hd2 := hd
  unfold isD at hd2
  simp at hd2
  have hx : (ByteArray.mk (a :: r).toArray).extract 1 (r.length + 1) = ⟨r.toArray⟩ := by rw [extract_mk]; simp
  go_enter Tryz.func160, Tryz.ntmps160
  go_wp2_with fail
  rw [at0]
  go_wp2
  go_ret
  exact ⟨ret_int (show ((a.toNat : Int) - 48) % 256 = dv a by unfold dv; omega), Only.set _ _ _, World.cell?_setCell_same _ _ _ hc⟩
theorem rdg_two (a b : UInt8) (r : List UInt8) (ha : isD a = true) (hb : isD b = true) : rDig (a :: b :: r) = some (dv a * 10 + dv b, r) := by rw [rDig, if_pos ha, if_pos hb]
theorem rdg_one (a : UInt8) (r : List UInt8) (ha : isD a = true) (hb : hdD r = false) : rDig (a :: r) = some (dv a, r) := by
  cases r with
  | nil => rw [rDig, if_pos ha]
  | cons b r => rw [rDig, if_pos ha, if_neg (by rw [show isD b = false from hb]; decide)]
theorem rdg_no (l : List UInt8) (h : hdD l = false) : rDig l = none := by
  rcases l with _ | ⟨a, _ | ⟨b, r⟩⟩
  · rfl
  · rw [rDig, if_neg (by rw [show isD a = false from h]; decide)]
  · rw [rDig, if_neg (by rw [show isD a = false from h]; decide)]
theorem digits_any (l : List UInt8) (bk : Nat) (w : World) (hc : w.cell? ⟨bk, 0, none⟩ = some (.string ⟨l.toArray⟩)) (hf : w.frozen? ⟨bk, 0, none⟩ = false) :
    Calls Tryz.prog 141 #[.pointer (some ⟨bk, 0, none⟩)] w (RdPost ((rDig l).map fun p => (.int .i64 p.1, p.2)) bk w) := by
  cases h0 : hdD l with
  | false =>
    rw [rdg_no l h0]
    go_enter Tryz.func141, Tryz.ntmps141
    go_wp2_with fail
    refine (hasDigit_any l bk _ hc).mono ?_
    rintro e w1 ⟨rfl, rfl⟩
    rw [h0]
    go_wp2_with fail
    refine (need_no _).mono ?_
    rintro e w2 ⟨rfl, rfl⟩
    exact ⟨rfl, rfl, Only.refl _ _⟩
  | true =>
    obtain ⟨a, r, rfl⟩ : ∃ a r, l = a :: r := by
      cases l with
      | nil => cases h0
      | cons a r => exact ⟨a, r, rfl⟩
    have ha : isD a = true := h0
    have da := dv_bd ha
    go_enter Tryz.func141, Tryz.ntmps141
    go_wp2_with fail
    refine (hasDigit_any _ bk _ hc).mono ?_
    rintro e w1 ⟨rfl, rfl⟩
    rw [h0]
    go_wp2_with fail
    refine (need_yes _).mono ?_
    rintro e w2 ⟨rfl, rfl⟩
    go_wp2_with fail
    refine (kdigit_any a r bk _ ha hc hf).mono ?_
    rintro e w3 ⟨rfl, o3, c3⟩
    have f3 := o3.frozen.trans hf
    go_wp2_with fail
    refine (hasDigit_any r bk _ c3).mono ?_
    rintro e w4 ⟨rfl, rfl⟩
    cases h1 : hdD r with
    | false =>
      have HR := Lib.hid (rdg_one a r ha h1)
      go_wp2
      go_ret
      rw [HR.out]
      exact ⟨rfl, o3, c3⟩
    | true =>
      obtain ⟨b, r2, rfl⟩ : ∃ b r2, r = b :: r2 := by
        cases r with
        | nil => cases h1
        | cons b r2 => exact ⟨b, r2, rfl⟩
      have hb : isD b = true := h1
      have db := dv_bd hb
      have HR := Lib.hid (rdg_two a b r2 ha hb)
      go_wp2_with fail
      refine (kdigit_any b r2 bk _ hb c3 f3).mono ?_
      rintro e w5 ⟨rfl, o5, c5⟩
      go_wp2
      go_ret
      rw [HR.out]
      exact ⟨rfl, o3.trans o5, c5⟩
/-! One sign. -/
def skp (c : UInt8) (l : List UInt8) : List UInt8 := if l.head? = some c then l.tail else l
theorem cut_pre (c : UInt8) (l : List UInt8) : Lib.trimPrefix l [c] = skp c l ∧ Lib.hasPrefix l [c] = decide (l.head? = some c) := by
  unfold skp
  cases l with
  | nil => simp [Lib.trimPrefix, Lib.hasPrefix]
  | cons b r =>
    by_cases hb : c = b
    · subst hb; simp [Lib.trimPrefix, Lib.hasPrefix]
    · have h2 : ¬ b = c := fun e => hb e.symm
      have h3 : (c == b) = false := beq_eq_false_iff_ne.2 hb
      simp [Lib.trimPrefix, Lib.hasPrefix, List.isPrefixOf, h2, h3]
theorem skip_any (c : UInt8) (l : List UInt8) (bk : Nat) (w : World) (hc : w.cell? ⟨bk, 0, none⟩ = some (.string ⟨l.toArray⟩)) (hf : w.frozen? ⟨bk, 0, none⟩ = false) :
    Calls Tryz.prog 131 #[.pointer (some ⟨bk, 0, none⟩), .string ⟨[c].toArray⟩] w (RdPost (some (.bool (decide (l.head? = some c)), skp c l)) bk w) := by
  have hs := Lib.hid (cut_pre c l)
  go_enter Tryz.func131, Tryz.ntmps131
  go_wp2_with fail
  refine (Tryz.strings_CutPrefix _ _ _).mono ?_
  rintro e w1 ⟨rfl, rfl⟩
  simp only [hs.out.1, hs.out.2]
  go_wp2
  go_ret
  exact ⟨rfl, Only.set _ _ _, World.cell?_setCell_same _ _ _ hc⟩
theorem skip_yes (c : UInt8) (r : List UInt8) (bk : Nat) (w : World) (hc : w.cell? ⟨bk, 0, none⟩ = some (.string ⟨(c :: r).toArray⟩)) (hf : w.frozen? ⟨bk, 0, none⟩ = false) :
    Calls Tryz.prog 131 #[.pointer (some ⟨bk, 0, none⟩), .string ⟨[c].toArray⟩] w (RdPost (some (.bool true, r)) bk w) := by
  have := skip_any c (c :: r) bk w hc hf
  simpa [skp] using this
theorem skip_no (c : UInt8) (l : List UInt8) (hn : l.head? ≠ some c) (bk : Nat) (w : World) (hc : w.cell? ⟨bk, 0, none⟩ = some (.string ⟨l.toArray⟩)) (hf : w.frozen? ⟨bk, 0, none⟩ = false) :
    Calls Tryz.prog 131 #[.pointer (some ⟨bk, 0, none⟩), .string ⟨[c].toArray⟩] w (RdPost (some (.bool false, l)) bk w) := by
  have := skip_any c l bk w hc hf
  rw [skp, if_neg hn, decide_eq_false hn] at this
  exact this
theorem step_any (l : List UInt8) (bk : Nat) (w : World) (hc : w.cell? ⟨bk, 0, none⟩ = some (.string ⟨l.toArray⟩)) (hf : w.frozen? ⟨bk, 0, none⟩ = false) :
    Calls Tryz.prog 132 #[.pointer (some ⟨bk, 0, none⟩)] w (RdPost ((rStep l).map fun p => (.int .i64 p.1, p.2)) bk w) := by
  by_cases hh : l.head? = some 47
  · obtain ⟨r, rfl⟩ : ∃ r, l = 47 :: r := by
      cases l with
      | nil => cases hh
      | cons a r => injection hh with hh; subst hh; exact ⟨r, rfl⟩
    have hr : rStep (47 :: r) = (rDig r).bind fun p => if 0 < p.1 then some p else none := by rw [rStep, if_pos hh]; rfl
    have HR := Lib.hid hr; clear hr hh
    go_enter Tryz.func132, Tryz.ntmps132
    go_wp2_with fail
    refine (skip_yes 47 r bk _ hc hf).mono ?_
    rintro e w1 ⟨rfl, o1, c1⟩
    have f1 := o1.frozen.trans hf
    go_wp2_with fail
    refine (digits_any r bk _ c1 f1).mono ?_
    intro e w2 hp
    rcases hd : rDig r with _ | ⟨n, r2⟩
    · rw [hd] at hp
      obtain ⟨rfl, o2⟩ := hp
      refine ⟨rfl, ?_⟩
      rw [HR.out, hd]
      exact ⟨rfl, o1.trans o2⟩
    · rw [hd] at hp
      obtain ⟨rfl, o2, c2⟩ := hp
      have HD := Lib.hid hd; clear hd
      by_cases hn : 0 < n
      · go_wp2_with fail
        refine (need_yes _).mono ?_
        rintro e w3 ⟨rfl, rfl⟩
        go_wp2
        go_ret
        rw [HR.out, HD.out]
        simp only [Option.bind_some, if_pos hn]
        exact ⟨rfl, o1.trans o2, c2⟩
      · go_wp2_with fail
        refine (need_not _ (decide_eq_false (by omega)) _).mono ?_
        rintro e w3 ⟨rfl, rfl⟩
        refine ⟨rfl, ?_⟩
        rw [HR.out, HD.out]
        simp only [Option.bind_some, if_neg (show ¬ 0 < n by omega)]
        exact ⟨rfl, o1.trans o2⟩
  · have HR := Lib.hid (show rStep l = some (1, l) by rw [rStep, if_neg hh])
    go_enter Tryz.func132, Tryz.ntmps132
    go_wp2_with fail
    refine (skip_no 47 l hh bk _ hc hf).mono ?_
    rintro e w1 ⟨rfl, o1, c1⟩
    go_wp2
    go_ret
    rw [HR.out]
    exact ⟨rfl, o1, c1⟩
/-! One number. -/
abbrev fld (f : Nat) : Value := .agg #[.int .i64 (lo f), .int .i64 (hi f), .int .i64 (wr f), .string ⟨(nms f).toArray⟩]
abbrev fldO (f : Nat) : Obj := .cells #[.int .i64 (lo f), .int .i64 (hi f), .int .i64 (wr f), .string ⟨(nms f).toArray⟩] 65
theorem nms_len (f : Nat) : (nms f).length ≤ 36 ∧ (nms f).length % 3 = 0 := by unfold nms; split <;> decide
/-- where the search stands -/
theorem fnd_step (N t : List UInt8) (k : Nat) (i : Int) (h : 3 * k + 3 ≤ N.length) :
    fnd (N.drop (3 * k)) t i = if (N.drop (3 * k)).take 3 = t then some i else fnd (N.drop (3 * (k + 1))) t (i + 1) := by
  have hd : N.drop (3 * (k + 1)) = (N.drop (3 * k)).drop 3 := by rw [List.drop_drop]; congr 1
  have hl : (N.drop (3 * k)).length = N.length - 3 * k := List.length_drop
  rw [hd]
  rcases hN : N.drop (3 * k) with _ | ⟨a, _ | ⟨b, _ | ⟨c, r⟩⟩⟩
  · rw [hN] at hl; simp at hl; omega
  · rw [hN] at hl; simp at hl; omega
  · rw [hN] at hl; simp at hl; omega
  · rw [fnd]; rfl
def NamedPost (o : Option Int) (w : World) (e : Ending) (w' : World) : Prop :=
  match o with
  | none => e = .returned (.tuple #[.int .i64 0, .bool false]) ∧ Kept w w'
  | some n => e = .returned (.tuple #[.int .i64 n, .bool true]) ∧ Kept w w'
theorem new_cell (w : World) (cs : Array Value) (t : TypeId) (j : Nat) (v : Value) (h : cs[j]? = some v) : (w.alloc (.cells cs t)).cell? ⟨w.heap.size, j, none⟩ = some v := by
  unfold World.cell?
  rw [show (w.alloc (.cells cs t)).heap = w.heap.push (.cells cs t) from rfl]
  simp [h]
set_option maxHeartbeats 1000000 in
theorem named_any (f : Nat) (t : List UInt8) (w : World) :
    Calls Tryz.prog 161 #[fld f, .string ⟨t.toArray⟩] w (NamedPost (fnd (nms f) t (lo f)) w) := by
  obtain ⟨hl, h3⟩ := nms_len f
  have hlo := lo_bd f
  have g0 := new_cell w #[.int .i64 (lo f), .int .i64 (hi f), .int .i64 (wr f), .string ⟨(nms f).toArray⟩] 65 0 _ rfl
  have g3 := new_cell w #[.int .i64 (lo f), .int .i64 (hi f), .int .i64 (wr f), .string ⟨(nms f).toArray⟩] 65 3 _ rfl
  have k0 := (Kept.refl w).alloc (fldO f)
  go_enter Tryz.func161, Tryz.ntmps161
  go_upto_region 1 with (fail)
  generalize w.alloc (fldO f) = x at *
  generalize hLo : lo f = L at *
  generalize hN : nms f = N at *
  go_wp2_with fail
  go_loopw [6] (fun i wx => wx = x ∧ ∃ k : Nat, i = .int .i64 ((3 * k : Nat) : Int) ∧ 3 * k ≤ N.length ∧ fnd N t L = fnd (N.drop (3 * k)) t (L + k)) (fun i _ => 36 - (intOf i).toNat)
  case atStart => exact ⟨rfl, 0, rfl, by omega, by simp⟩
  case round =>
    obtain ⟨rfl, k, rfl, hk, hf⟩ := hrel
    have HF := Lib.hid hf; clear hf
    by_cases hlt : 3 * k < N.length
    · have hk3 : 3 * k + 3 ≤ N.length := by omega
      have hx : (ByteArray.mk N.toArray).extract (3 * k) (3 * k + 3) = ⟨((N.drop (3 * k)).take 3).toArray⟩ := by rw [extract_mk]; congr 3; omega
      have hs := fnd_step N t k (L + k) hk3
      by_cases he : (N.drop (3 * k)).take 3 = t
      · rw [if_pos he] at hs
        have HS := Lib.hid (HF.out.trans hs); clear hs
        go_wp2
        go_ret2
        rw [HS.out]
        exact ⟨rfl, k0⟩
      · rw [if_neg he] at hs
        have HS := Lib.hid (HF.out.trans hs); clear hs
        have hb : ((N.drop (3 * k)).take 3 == t) = false := beq_eq_false_iff_ne.2 he
        clear he
        go_wp2
        go_roundw
        case rel => exact ⟨trivial, k + 1, by go_num, by omega, by rw [HS.out]; congr 1; omega⟩
        case measure => simp [intOf]; omega
    · have HS := Lib.hid (show fnd N t L = none by rw [HF.out, List.drop_eq_nil_of_le (by omega)]; rfl)
      go_wp2
      go_ret2
      rw [HS.out]
      exact ⟨rfl, k0⟩
end Go.Proofs.YtilgamjahediiaaGreatDoor
/- Contracts of package cron: the reader's numbers and pieces. -/
set_option linter.unusedVariables false
namespace Go.Proofs.YtilgamjahediiaaGreatDoor
open Go.ChangeShapes Go.WideShapes Go.ChangeAt Go.RowKit
open Crn
/-- what the library's tables hold -/
structure Tab (w : World) : Prop where
  cv : Lib.CaseVar 3 Lib.caseA w
  u8 : Lib.Utf8Tabs 1 2 w
  ml : ∃ m, w.cell? ⟨0, 0, none⟩ = some (.int .i64 m)
theorem u8_block {g h : Nat} {w : World} (k : Lib.Utf8Tabs g h w) : g < w.heap.size ∧ h < w.heap.size := by
  obtain ⟨a, b⟩ := k
  exact ⟨lt_cell (a 0 (by omega)), lt_cell (b 0 (by omega)).1⟩
theorem Tab.below {w w' : World} (h : Tab w) (hb : Below w.heap.size w w') : Tab w' := by
  refine ⟨Lib.CaseVar_below h.cv hb, ?_, ?_⟩
  · obtain ⟨l1, l2⟩ := u8_block h.u8
    have q : ∀ g j, g < w.heap.size → w'.cell? ⟨g, j, none⟩ = w.cell? ⟨g, j, none⟩ := fun g j hg => by unfold World.cell?; rw [hb.block g hg]
    refine ⟨fun c hc => (q 1 c l1).trans (h.u8.1 c hc), fun i hi => ⟨(q 2 _ l2).trans (h.u8.2 i hi).1, (q 2 _ l2).trans (h.u8.2 i hi).2⟩⟩
  · obtain ⟨m, hm⟩ := h.ml
    exact ⟨m, by unfold World.cell?; rw [hb.block 0 (lt_cell hm)]; exact hm⟩
/-- the tables, below a block's number -/
def Tb (n : Nat) (w : World) : Prop := ∃ w0, Tab w0 ∧ w0.heap.size ≤ n ∧ Below w0.heap.size w0 w
theorem Tb.tab {n : Nat} {w : World} (h : Tb n w) : Tab w := by obtain ⟨w0, h0, _, hb⟩ := h; exact h0.below hb
theorem Tb.start {w : World} (h : Tab w) : Tb w.heap.size w := ⟨w, h, Nat.le_refl _, (Kept.refl w).below (Nat.le_refl _)⟩
theorem below_trans {B : Nat} {a b c : World} (h : Below B a b) (hs : a.heap.size ≤ b.heap.size) (k : ∀ i, i < B → c.heap[i]? = b.heap[i]?) (h1 : c.os = b.os) (h2 : c.output = b.output) (h3 : c.tape = b.tape) (h4 : b.heap.size ≤ c.heap.size) : Below B a c :=
  ⟨h1.trans h.os, h3.trans h.tape, h2.trans h.output, Nat.le_trans hs h4, fun i hi => (k i hi).trans (h.block i hi)⟩
theorem Tb.only {n bk : Nat} {w w' : World} (h : Tb n w) (hb : n ≤ bk) (o : Only bk w w') : Tb n w' := by
  obtain ⟨w0, h0, hn, hB⟩ := h
  exact ⟨w0, h0, hn, below_trans hB hB.size (fun i hi => o.block i (Nat.lt_of_lt_of_le hi hB.size) (by omega)) o.os o.output o.tape o.size⟩
theorem Tb.kept {n : Nat} {w w' : World} (h : Tb n w) (o : Kept w w') : Tb n w' := by
  obtain ⟨w0, h0, hn, hB⟩ := h
  exact ⟨w0, h0, hn, below_trans hB hB.size (fun i hi => o.block i (Nat.lt_of_lt_of_le hi hB.size)) o.os o.output o.tape o.size⟩
theorem Tb.mono {n m : Nat} {w : World} (h : Tb n w) (hm : n ≤ m) : Tb m w := by obtain ⟨w0, h0, hn, hB⟩ := h; exact ⟨w0, h0, by omega, hB⟩
/-- three bytes are a name, or not -/
def nameR (f : Nat) (l : List UInt8) : Value × List UInt8 := match rName f l with
  | none => (.tuple #[.int .i64 0, .bool false], l)
  | some p => (.tuple #[.int .i64 p.1, .bool true], p.2)
structure Fl (f b : Nat) (x : World) : Prop where
  lt : b < x.heap.size
  c0 : x.cell? ⟨b, 0, none⟩ = some (.int .i64 (lo f))
  c1 : x.cell? ⟨b, 1, none⟩ = some (.int .i64 (hi f))
  c2 : x.cell? ⟨b, 2, none⟩ = some (.int .i64 (wr f))
  c3 : x.cell? ⟨b, 3, none⟩ = some (.string ⟨(nms f).toArray⟩)
theorem Fl.new (f : Nat) (w : World) : Fl f w.heap.size (w.alloc (fldO f)) :=
  ⟨by simp, new_cell w _ 65 0 _ rfl, new_cell w _ 65 1 _ rfl, new_cell w _ 65 2 _ rfl, new_cell w _ 65 3 _ rfl⟩
theorem Fl.only {f b bk : Nat} {w w' : World} (h : Fl f b w) (o : Only bk w w') (hn : b ≠ bk) : Fl f b w' := by
  have q : ∀ j, w'.cell? ⟨b, j, none⟩ = w.cell? ⟨b, j, none⟩ := fun j => by unfold World.cell?; rw [o.block b h.lt hn]
  exact ⟨Nat.lt_of_lt_of_le h.lt o.size, (q 0).trans h.c0, (q 1).trans h.c1, (q 2).trans h.c2, (q 3).trans h.c3⟩
theorem Fl.kept {f b : Nat} {w w' : World} (h : Fl f b w) (o : Kept w w') : Fl f b w' := by
  have q : ∀ j, w'.cell? ⟨b, j, none⟩ = w.cell? ⟨b, j, none⟩ := fun j => o.cell (a := ⟨b, j, none⟩) h.lt
  exact ⟨Nat.lt_of_lt_of_le h.lt o.size, (q 0).trans h.c0, (q 1).trans h.c1, (q 2).trans h.c2, (q 3).trans h.c3⟩
theorem nm_held {W x x' : World} {f b bk : Nat} {s : ByteArray} (k : Kept x x') (H : Kept W x ∧ x.cell? ⟨b, 0, none⟩ = some (.int .i64 (lo f)) ∧ x.cell? ⟨b, 1, none⟩ = some (.int .i64 (hi f)) ∧ x.cell? ⟨b, 2, none⟩ = some (.int .i64 (wr f)) ∧ x.cell? ⟨b, 3, none⟩ = some (.string ⟨(nms f).toArray⟩) ∧ x.cell? ⟨bk, 0, none⟩ = some (.string s)) :
    Kept W x' ∧ x'.cell? ⟨b, 0, none⟩ = some (.int .i64 (lo f)) ∧ x'.cell? ⟨b, 1, none⟩ = some (.int .i64 (hi f)) ∧ x'.cell? ⟨b, 2, none⟩ = some (.int .i64 (wr f)) ∧ x'.cell? ⟨b, 3, none⟩ = some (.string ⟨(nms f).toArray⟩) ∧ x'.cell? ⟨bk, 0, none⟩ = some (.string s) := by
  obtain ⟨h0, h1, h2, h3, h4, h5⟩ := H
  exact ⟨h0.trans k, (k.cell (a := ⟨b, 0, none⟩) (lt_cell h1)).trans h1, (k.cell (a := ⟨b, 1, none⟩) (lt_cell h2)).trans h2, (k.cell (a := ⟨b, 2, none⟩) (lt_cell h3)).trans h3, (k.cell (a := ⟨b, 3, none⟩) (lt_cell h4)).trans h4, (k.cell (a := ⟨bk, 0, none⟩) (lt_cell h5)).trans h5⟩
theorem tolow_any (t : List UInt8) (W w : World) (hl : t.length = 3) (ht : Tab W) (hk : Kept W w) : Calls Tryz.prog 162 #[.string ⟨t.toArray⟩] w fun e w' => e = .returned (.string ⟨(Lib.toLowerD t).toArray⟩) ∧ Kept w w' := by
  have hT := ht.below (hk.below (Nat.le_refl _))
  refine (Tryz.strings_ToLower_any ⟨t.toArray⟩ w (by rw [show (ByteArray.mk t.toArray).size = t.length from rfl, hl]; omega) hT.cv hT.u8).mono ?_
  rintro e w1 ⟨rfl, hb⟩
  exact ⟨by simp, Kept.of_below hb⟩
theorem named_none (f : Nat) (t : List UInt8) (h : fnd (nms f) t (lo f) = none) (w : World) : Calls Tryz.prog 161 #[fld f, .string ⟨t.toArray⟩] w fun e w' => e = .returned (.tuple #[.int .i64 0, .bool false]) ∧ Kept w w' := by
  have := named_any f t w; rw [h] at this; exact this
theorem named_some (f : Nat) (t : List UInt8) (n : Int) (h : fnd (nms f) t (lo f) = some n) (w : World) : Calls Tryz.prog 161 #[fld f, .string ⟨t.toArray⟩] w fun e w' => e = .returned (.tuple #[.int .i64 n, .bool true]) ∧ Kept w w' := by
  have := named_any f t w; rw [h] at this; exact this
set_option maxHeartbeats 1000000 in
theorem name_any (f : Nat) (l : List UInt8) (bk n : Nat) (w : World) (hn : n ≤ bk) (ht : Tb n w) (hc : w.cell? ⟨bk, 0, none⟩ = some (.string ⟨l.toArray⟩)) (hf : w.frozen? ⟨bk, 0, none⟩ = false) :
    Calls Tryz.prog 142 #[.pointer (some ⟨bk, 0, none⟩), fld f] w (RdPost (some (nameR f l)) bk w) := by
  have hb := lt_cell hc
  have k0 := (Kept.refl w).alloc (fldO f)
  have F0 := Fl.new f w
  have c0 := (k0.cell (a := ⟨bk, 0, none⟩) hb).trans hc
  have f0 := (k0.frozen (a := ⟨bk, 0, none⟩) hb).trans hf
  have t0 := (ht.kept k0).tab
  have o0 := Only.kept k0 hb
  by_cases h3 : l.length < 3
  · have HR := Lib.hid (show nameR f l = (.tuple #[.int .i64 0, .bool false], l) by simp only [nameR, rName, if_pos h3])
    go_enter Tryz.func142, Tryz.ntmps142
    go_upto_region 1 with (fail)
    generalize w.alloc (fldO f) = x at *
    go_wp2
    go_ret2
    rw [HR.out]
    exact ⟨rfl, o0, c0⟩
  · have h3' : (l.take 3).length = 3 := by simp; omega
    have hx : (ByteArray.mk l.toArray).extract 0 3 = ⟨(l.take 3).toArray⟩ := by rw [extract_mk]; simp
    have hx2 : (ByteArray.mk l.toArray).extract 3 l.length = ⟨(l.drop 3).toArray⟩ := by
      rw [extract_mk]; congr 2; rw [List.take_of_length_le (by simp)]
    have hl3 := nm_lower f (l.take 3) h3'
    have HN := Lib.hid (show rName f l = (nm f (l.take 3)).map fun n => (n, l.drop 3) by rw [rName, if_neg h3])
    obtain ⟨e0, e1, e2, e3⟩ := (⟨F0.c0, F0.c1, F0.c2, F0.c3⟩ : _ ∧ _ ∧ _ ∧ _)
    cases hnm : nm f (l.take 3) with
    | none =>
      have HR := Lib.hid (show nameR f l = (.tuple #[.int .i64 0, .bool false], l) by simp only [nameR, HN.out, hnm, Option.map_none])
      have HL := Lib.hid (hl3.trans hnm); clear hl3 hnm
      go_enter Tryz.func142, Tryz.ntmps142
      go_upto_region 1 with (fail)
      generalize w.alloc (fldO f) = x at *
      go_wp2_with fail
      go_region_held3 (fun y => Kept x y ∧ y.cell? ⟨w.heap.size, 0, none⟩ = some (.int .i64 (lo f)) ∧ y.cell? ⟨w.heap.size, 1, none⟩ = some (.int .i64 (hi f)) ∧ y.cell? ⟨w.heap.size, 2, none⟩ = some (.int .i64 (wr f)) ∧ y.cell? ⟨w.heap.size, 3, none⟩ = some (.string ⟨(nms f).toArray⟩) ∧ y.cell? ⟨bk, 0, none⟩ = some (.string ⟨l.toArray⟩))
        (first | exact nm_held (by assumption) (by assumption) | assumption | exact ⟨(Kept.refl x).drew, e0, e1, e2, e3, c0⟩)
        (first | (go_at_call 162; refine (tolow_any (l.take 3) x _ h3' t0 (by go_split_ands; assumption)).mono ?_; rintro e w' ⟨rfl, hk'⟩)
               | (go_at_call 161; refine (named_none f _ HL.out _).mono ?_; rintro e w' ⟨rfl, hk'⟩))
      obtain ⟨hK, -, -, -, -, cl⟩ := ‹Kept x _ ∧ _›
      have o1 := o0.trans (Only.kept hK (lt_cell c0))
      go_wp2
      go_ret2
      rw [HR.out]
      exact ⟨rfl, o1, cl⟩
    | some m =>
      have HR := Lib.hid (show nameR f l = (.tuple #[.int .i64 m, .bool true], l.drop 3) by simp only [nameR, HN.out, hnm, Option.map_some])
      have HL := Lib.hid (hl3.trans hnm); clear hl3 hnm
      go_enter Tryz.func142, Tryz.ntmps142
      go_upto_region 1 with (fail)
      generalize w.alloc (fldO f) = x at *
      go_wp2_with fail
      go_region_held3 (fun y => Kept x y ∧ y.cell? ⟨w.heap.size, 0, none⟩ = some (.int .i64 (lo f)) ∧ y.cell? ⟨w.heap.size, 1, none⟩ = some (.int .i64 (hi f)) ∧ y.cell? ⟨w.heap.size, 2, none⟩ = some (.int .i64 (wr f)) ∧ y.cell? ⟨w.heap.size, 3, none⟩ = some (.string ⟨(nms f).toArray⟩) ∧ y.cell? ⟨bk, 0, none⟩ = some (.string ⟨l.toArray⟩))
        (first | exact nm_held (by assumption) (by assumption) | assumption | exact ⟨(Kept.refl x).drew, e0, e1, e2, e3, c0⟩)
        (first | (go_at_call 162; refine (tolow_any (l.take 3) x _ h3' t0 (by go_split_ands; assumption)).mono ?_; rintro e w' ⟨rfl, hk'⟩)
               | (go_at_call 161; refine (named_some f _ m HL.out _).mono ?_; rintro e w' ⟨rfl, hk'⟩))
      obtain ⟨hK, -, -, -, -, cl⟩ := ‹Kept x _ ∧ _›
      have o1 := o0.trans (Only.kept hK (lt_cell c0))
      have f1 := o1.frozen.trans hf
      go_wp2
      go_ret2
      rw [HR.out]
      exact ⟨rfl, o1.trans (Only.set _ _ _), World.cell?_setCell_same _ _ _ cl⟩
set_option maxHeartbeats 1000000 in
theorem number_any (f : Nat) (l : List UInt8) (bk n : Nat) (w : World) (hn : n ≤ bk) (ht : Tb n w) (hc : w.cell? ⟨bk, 0, none⟩ = some (.string ⟨l.toArray⟩)) (hf : w.frozen? ⟨bk, 0, none⟩ = false) :
    Calls Tryz.prog 133 #[.pointer (some ⟨bk, 0, none⟩), fld f] w (RdPost ((rNum f l).map fun p => (.int .i64 p.1, p.2)) bk w) := by
  have hb := lt_cell hc
  have k0 := (Kept.refl w).alloc (fldO f)
  have F0 := Fl.new f w
  have c0 := (k0.cell (a := ⟨bk, 0, none⟩) hb).trans hc
  have f0 := (k0.frozen (a := ⟨bk, 0, none⟩) hb).trans hf
  have t0 := ht.kept k0
  have o0 := Only.kept k0 hb
  have hne : w.heap.size ≠ bk := by omega
  obtain ⟨e0, e1, e2, e3⟩ := (⟨F0.c0, F0.c1, F0.c2, F0.c3⟩ : _ ∧ _ ∧ _ ∧ _)
  go_enter Tryz.func133, Tryz.ntmps133
  go_upto_region 1 with (fail)
  generalize w.alloc (fldO f) = x at *
  go_wp2_with fail
  refine (name_any f l bk n _ hn t0 c0 f0).mono ?_
  intro e x1 hp
  cases h1 : rName f l with
  | some p =>
    have hv : nameR f l = (.tuple #[.int .i64 p.1, .bool true], p.2) := by simp only [nameR, h1]
    rw [hv] at hp
    obtain ⟨rfl, o1, c1⟩ := hp
    have HR := Lib.hid (show rNum f l = some p by rw [rNum, h1])
    clear h1 hv
    go_wp2
    go_ret
    rw [HR.out]
    exact ⟨rfl, o0.trans o1, c1⟩
  | none =>
    have hv : nameR f l = (.tuple #[.int .i64 0, .bool false], l) := by simp only [nameR, h1]
    rw [hv] at hp
    obtain ⟨rfl, o1, c1⟩ := hp
    have HR := Lib.hid (show rNum f l = (rDig l).bind fun p => if lo f ≤ p.1 ∧ p.1 ≤ wr f then some p else none by rw [rNum, h1])
    clear h1 hv e0 e1 e2 e3
    have f1 := o1.frozen.trans f0
    have F1 := F0.only o1 hne
    have o01 := o0.trans o1
    go_wp2_with fail
    refine (digits_any l bk _ c1 f1).mono ?_
    intro e x2 hp
    rcases hd : rDig l with _ | ⟨m, r⟩
    · rw [hd] at hp
      obtain ⟨rfl, o2⟩ := hp
      refine ⟨rfl, ?_⟩
      rw [HR.out, hd]
      exact ⟨rfl, o01.trans o2⟩
    · rw [hd] at hp
      obtain ⟨rfl, o2, c2⟩ := hp
      have HD := Lib.hid hd; clear hd
      have F2 := F1.only o2 hne
      obtain ⟨e0, e2⟩ := (⟨F2.c0, F2.c2⟩ : _ ∧ _)
      have o02 := o01.trans o2
      by_cases g1 : lo f ≤ m
      · by_cases g2 : m ≤ wr f
        · go_wp2_with fail
          refine (need_ok _ (by simp) _).mono ?_
          rintro e x3 ⟨rfl, rfl⟩
          go_wp2
          go_ret
          rw [HR.out, HD.out]
          simp only [Option.bind_some, if_pos (And.intro g1 g2)]
          exact ⟨rfl, o02, c2⟩
        · go_wp2_with fail
          refine (need_not _ (by simp; omega) _).mono ?_
          rintro e x3 ⟨rfl, rfl⟩
          refine ⟨rfl, ?_⟩
          rw [HR.out, HD.out]
          simp only [Option.bind_some, if_neg (show ¬ (lo f ≤ m ∧ m ≤ wr f) by omega)]
          exact ⟨rfl, o02⟩
      · go_wp2_with fail
        refine (need_not _ (by simp <;> omega) _).mono ?_
        rintro e x3 ⟨rfl, rfl⟩
        refine ⟨rfl, ?_⟩
        rw [HR.out, HD.out]
        simp only [Option.bind_some, if_neg (show ¬ (lo f ≤ m ∧ m ≤ wr f) by omega)]
        exact ⟨rfl, o02⟩
end Go.Proofs.YtilgamjahediiaaGreatDoor
/- Contracts of package cron: the reader's pieces. -/
set_option linter.unusedVariables false
namespace Go.Proofs.YtilgamjahediiaaGreatDoor
open Go.ChangeShapes Go.WideShapes Go.ChangeAt Go.RowKit
open Crn
theorem Only.undrew {bk : Nat} {w w' : World} (h : Only bk w.drew w') : Only bk w w' := ⟨h.os, h.output, h.tape, h.size, h.block, h.frozen⟩
abbrev tri (p : Int × Int × Int) : Value := .tuple #[.int .i64 p.1, .int .i64 p.2.1, .int .i64 p.2.2]
set_option maxRecDepth 100000 in
set_option maxHeartbeats 1000000 in
theorem piece_any (f : Nat) (l : List UInt8) (bk n : Nat) (w : World) (hn : n ≤ bk) (ht : Tb n w) (hc : w.cell? ⟨bk, 0, none⟩ = some (.string ⟨l.toArray⟩)) (hf : w.frozen? ⟨bk, 0, none⟩ = false) :
    Calls Tryz.prog 122 #[.pointer (some ⟨bk, 0, none⟩), fld f] w (RdPost ((rPiece f l).map fun p => (tri p.1, p.2)) bk w) := by
  have hb := lt_cell hc
  have k0 := (Kept.refl w).alloc (fldO f)
  have F0 := Fl.new f w
  have c0 := (k0.cell (a := ⟨bk, 0, none⟩) hb).trans hc
  have f0 := (k0.frozen (a := ⟨bk, 0, none⟩) hb).trans hf
  have t0 := ht.kept k0
  have o0 := Only.kept k0 hb
  have hne : w.heap.size ≠ bk := by omega
  by_cases hs : l.head? = some 42
  · obtain ⟨r, rfl⟩ : ∃ r, l = 42 :: r := by
      cases l with
      | nil => cases hs
      | cons a r => injection hs with hs; subst hs; exact ⟨r, rfl⟩
    have HR := Lib.hid (show rPiece f (42 :: r) = (rStep r).map fun s => ((lo f, hi f, s.1), s.2) by rw [rPiece, if_pos hs]; rfl)
    clear hs
    go_enter Tryz.func122, Tryz.ntmps122
    go_upto_region 1 with (fail)
    generalize w.alloc (fldO f) = x at *
    go_wp2_with fail
    refine (skip_yes 42 r bk _ c0 f0).mono ?_
    rintro e x1 ⟨rfl, o1, c1⟩
    have f1 := o1.frozen.trans f0
    have F1 := F0.only o1 hne
    obtain ⟨e0, e1⟩ := (⟨F1.c0, F1.c1⟩ : _ ∧ _)
    have o01 := o0.trans o1
    go_upto_region 2 with (fail)
    refine wp_region_held_drew (S := fun y => Only bk x1 y ∧ y.cell? ⟨w.heap.size, 0, none⟩ = some (.int .i64 (lo f)) ∧ y.cell? ⟨w.heap.size, 1, none⟩ = some (.int .i64 (hi f))) (by kernel_rfl) ⟨(Only.refl bk x1.drew).undrew, e0, e1⟩ (fun hS0 => ?_)
    refine wpAnyH_take (i := 0) (oi := { dst := some 9, op := Go.Op.fieldAddr 65 (Go.Operand.tmp 3) 0, type := 0, pos := "reader.go:57", after := #[], guard := none }) (v := ?va0) rfl (by kernel_rfl) (by kernel_rfl) (by kernel_rfl) (fun _ _ _ h => h) (Or.inl ⟨by rfl, ?ya0⟩) (by assumption) ?ra0
    case ya0 => (intro wq hSw; (try dsimp only at hSw); go_simp; try with_reducible rfl)
    simp only [Act.put, List.setIfInBounds_toArray, List.set_cons_zero, List.set_cons_succ]
    refine wpAnyH_take (i := 1) (oi := { dst := some 10, op := Go.Op.load 3 (Go.Operand.tmp 9), type := 3, pos := "reader.go:57", after := #[{ on := 0, ground := Go.Ground.data }], guard := none }) (v := ?va1) rfl (by kernel_rfl) (by kernel_rfl) (by kernel_rfl) (fun _ _ _ h => h) (Or.inl ⟨by rfl, ?ya1⟩) (by assumption) ?ra1
    case ya1 => (intro wq hSw; (try dsimp only at hSw); go_simp; try with_reducible rfl)
    simp only [Act.put, List.setIfInBounds_toArray, List.set_cons_zero, List.set_cons_succ]
    refine wpAnyH_take (i := 2) (oi := { dst := some 11, op := Go.Op.fieldAddr 65 (Go.Operand.tmp 3) 1, type := 0, pos := "reader.go:57", after := #[{ on := 6, ground := Go.Ground.gcOnly Go.Departure.lateStores }], guard := none }) (v := ?va2) rfl (by kernel_rfl) (by kernel_rfl) (by kernel_rfl) (fun _ _ _ h => h) (Or.inl ⟨by rfl, ?ya2⟩) (by assumption) ?ra2
    case ya2 => (intro wq hSw; (try dsimp only at hSw); go_simp; try with_reducible rfl)
    simp only [Act.put, List.setIfInBounds_toArray, List.set_cons_zero, List.set_cons_succ]
    refine wpAnyH_take (i := 3) (oi := { dst := some 12, op := Go.Op.load 3 (Go.Operand.tmp 11), type := 3, pos := "reader.go:57", after := #[{ on := 2, ground := Go.Ground.data }, { on := 6, ground := Go.Ground.gcOnly Go.Departure.lateStores }], guard := none }) (v := ?va3) rfl (by kernel_rfl) (by kernel_rfl) (by kernel_rfl) (fun _ _ _ h => h) (Or.inl ⟨by rfl, ?ya3⟩) (by assumption) ?ra3
    case ya3 => (intro wq hSw; (try dsimp only at hSw); go_simp; try with_reducible rfl)
    simp only [Act.put, List.setIfInBounds_toArray, List.set_cons_zero, List.set_cons_succ]
    refine wpAnyH_take (i := 4) (oi := { dst := some 13, op := Go.Op.move (Go.Operand.tmp 0), type := 123, pos := "reader.go:57", after := #[], guard := none }) (v := ?va4) rfl (by kernel_rfl) (by kernel_rfl) (by kernel_rfl) (fun _ _ _ h => h) (Or.inl ⟨by rfl, ?ya4⟩) (by assumption) ?ra4
    case ya4 => (intro wq hSw; (try dsimp only at hSw); go_simp; try with_reducible rfl)
    simp only [Act.put, List.setIfInBounds_toArray, List.set_cons_zero, List.set_cons_succ]
    refine wpAnyH_ready (rs := [5]) (by kernel_rfl) (by simp) (AllReadyH.cons (o := { dst := some 14, op := Go.Op.call { callee := Go.Callee.value (Go.Operand.func 132), args := #[Go.Operand.tmp 13], argTypes := #[123] }, type := 3, pos := "reader.go:57", after := #[{ on := 4, ground := Go.Ground.data }], guard := none }) rfl (fun K hK => ?_) AllReadyH.nil)
    go_simp
    go_at_call 132; refine (step_any r bk x1.drew c1 f1).mono ?_
    intro e x2 hp
    rcases hst : rStep r with _ | ⟨s, r2⟩
    · rw [hst] at hp
      obtain ⟨rfl, o2⟩ := hp
      refine ⟨rfl, ?_⟩
      rw [HR.out, hst]
      exact ⟨rfl, o01.trans o2.undrew⟩
    rw [hst] at hp
    obtain ⟨rfl, o2, c2⟩ := hp
    have HX := Lib.hid (show rPiece f (42 :: r) = some ((lo f, hi f, s), r2) from by rw [HR.out, hst]; rfl)
    clear hst
    refine Shut.out hK _ _ ⟨o2.undrew, (F1.only o2.undrew hne).c0, (F1.only o2.undrew hne).c1⟩ (fun hSb => ?_)
    clear hK K
    try skip
    refine wpAnyH_take (i := 6) (oi := { dst := some 4, op := Go.Op.assign (Go.Operand.tmp 10), type := 3, pos := "reader.go:57", after := #[{ on := 1, ground := Go.Ground.data }, { on := 5, ground := Go.Ground.chain }, { on := 0, ground := Go.Ground.phase }, { on := 1, ground := Go.Ground.phase }, { on := 2, ground := Go.Ground.textOnly Go.Departure.lateStores }, { on := 3, ground := Go.Ground.textOnly Go.Departure.lateStores }, { on := 4, ground := Go.Ground.textOnly Go.Departure.lateStores }, { on := 5, ground := Go.Ground.textOnly Go.Departure.lateStoresUnsure }], guard := none }) (v := ?va6) rfl (by kernel_rfl) (by kernel_rfl) (by kernel_rfl) (fun _ _ _ h => h) (Or.inl ⟨by rfl, ?ya6⟩) (by assumption) ?ra6
    case ya6 => (intro wq hSw; (try dsimp only at hSw); go_simp; try with_reducible rfl)
    simp only [Act.put, List.setIfInBounds_toArray, List.set_cons_zero, List.set_cons_succ]
    refine wpAnyH_take (i := 7) (oi := { dst := some 5, op := Go.Op.assign (Go.Operand.tmp 12), type := 3, pos := "reader.go:57", after := #[{ on := 3, ground := Go.Ground.data }, { on := 6, ground := Go.Ground.chain }, { on := 0, ground := Go.Ground.phase }, { on := 1, ground := Go.Ground.phase }, { on := 2, ground := Go.Ground.phase }, { on := 3, ground := Go.Ground.phase }, { on := 4, ground := Go.Ground.textOnly Go.Departure.lateStores }, { on := 5, ground := Go.Ground.textOnly Go.Departure.lateStoresUnsure }, { on := 6, ground := Go.Ground.phase }], guard := none }) (v := ?va7) rfl (by kernel_rfl) (by kernel_rfl) (by kernel_rfl) (fun _ _ _ h => h) (Or.inl ⟨by rfl, ?ya7⟩) (by assumption) ?ra7
    case ya7 => (intro wq hSw; (try dsimp only at hSw); go_simp; try with_reducible rfl)
    simp only [Act.put, List.setIfInBounds_toArray, List.set_cons_zero, List.set_cons_succ]
    refine wpAnyH_take (i := 8) (oi := { dst := some 6, op := Go.Op.assign (Go.Operand.tmp 14), type := 3, pos := "reader.go:57", after := #[{ on := 5, ground := Go.Ground.data }, { on := 7, ground := Go.Ground.chain }, { on := 0, ground := Go.Ground.phase }, { on := 1, ground := Go.Ground.phase }, { on := 2, ground := Go.Ground.phase }, { on := 3, ground := Go.Ground.phase }, { on := 4, ground := Go.Ground.phase }, { on := 5, ground := Go.Ground.phase }, { on := 6, ground := Go.Ground.phase }, { on := 7, ground := Go.Ground.phase }], guard := none }) (v := ?va8) rfl (by kernel_rfl) (by kernel_rfl) (by kernel_rfl) (fun _ _ _ h => h) (Or.inl ⟨by rfl, ?ya8⟩) (by assumption) ?ra8
    case ya8 => (intro wq hSw; (try dsimp only at hSw); go_simp; try with_reducible rfl)
    simp only [Act.put, List.setIfInBounds_toArray, List.set_cons_zero, List.set_cons_succ]
    refine wpAnyH_done (by kernel_rfl) ?_ _
    go_wp2
    refine bodyPost_ret (v := tri (lo f, hi f, s)) (by simp [results, Tryz.results122, tri]) rfl ?_
    rw [HX.out]; exact ⟨rfl, o01.trans o2.undrew, c2⟩
  · have HR := Lib.hid (show rPiece f l = (rNum f l).bind fun p => if p.2.head? = some 45 then (rNum f p.2.tail).bind fun q => if p.1 ≤ q.1 then (rStep q.2).map fun s => ((p.1, q.1, s.1), s.2) else none else some ((p.1, p.1, 1), p.2) by rw [rPiece, if_neg hs])
    go_enter Tryz.func122, Tryz.ntmps122
    go_upto_region 1 with (fail)
    generalize w.alloc (fldO f) = x at *
    go_wp2_with fail
    refine (skip_no 42 l hs bk _ c0 f0).mono ?_
    rintro e x1 ⟨rfl, o1, c1⟩
    clear hs
    have f1 := o1.frozen.trans f0
    have F1 := F0.only o1 hne
    have t1 := t0.only hn o1
    obtain ⟨e0, e1, e2, e3⟩ := (⟨F1.c0, F1.c1, F1.c2, F1.c3⟩ : _ ∧ _ ∧ _ ∧ _)
    have o01 := o0.trans o1
    go_wp2_with fail
    refine (number_any f l bk n _ hn t1 c1 f1).mono ?_
    intro e x2 hp
    rcases h1 : rNum f l with _ | ⟨a, l1⟩
    · rw [h1] at hp
      obtain ⟨rfl, o2⟩ := hp
      refine ⟨rfl, ?_⟩
      rw [HR.out, h1]
      exact ⟨rfl, o01.trans o2⟩
    rw [h1] at hp
    obtain ⟨rfl, o2, c2⟩ := hp
    have H1 := Lib.hid h1; clear h1 e0 e1 e2 e3
    have f2 := o2.frozen.trans f1
    have F2 := F1.only o2 hne
    have t2 := t1.only hn o2
    have o02 := o01.trans o2
    by_cases hd : l1.head? = some 45
    · obtain ⟨r, rfl⟩ : ∃ r, l1 = 45 :: r := by
        cases l1 with
        | nil => cases hd
        | cons a r => injection hd with hd; subst hd; exact ⟨r, rfl⟩
      have HQ := Lib.hid (show rPiece f l = (rNum f r).bind fun q => if a ≤ q.1 then (rStep q.2).map fun s => ((a, q.1, s.1), s.2) else none by rw [HR.out, H1.out, Option.bind_some, if_pos hd]; rfl)
      clear HR hd
      go_wp2_with fail
      refine (skip_yes 45 r bk _ c2 f2).mono ?_
      rintro e x3 ⟨rfl, o3, c3⟩
      have f3 := o3.frozen.trans f2
      have F3 := F2.only o3 hne
      have t3 := t2.only hn o3
      have o03 := o02.trans o3
      obtain ⟨e0, e1, e2, e3⟩ := (⟨F3.c0, F3.c1, F3.c2, F3.c3⟩ : _ ∧ _ ∧ _ ∧ _)
      go_wp2_with fail
      refine (number_any f r bk n _ hn t3 c3 f3).mono ?_
      intro e x4 hp
      rcases h2 : rNum f r with _ | ⟨b, l2⟩
      · rw [h2] at hp
        obtain ⟨rfl, o4⟩ := hp
        refine ⟨rfl, ?_⟩
        rw [HQ.out, h2]
        exact ⟨rfl, o03.trans o4⟩
      rw [h2] at hp
      obtain ⟨rfl, o4, c4⟩ := hp
      have H2 := Lib.hid h2; clear h2 e0 e1 e2 e3
      have f4 := o4.frozen.trans f3
      have o04 := o03.trans o4
      by_cases hab : a ≤ b
      · have HP := Lib.hid (show rPiece f l = (rStep l2).map fun s => ((a, b, s.1), s.2) by rw [HQ.out, H2.out, Option.bind_some, if_pos hab])
        go_wp2_with fail
        refine (need_ok _ rfl _).mono ?_
        rintro e x5 ⟨rfl, rfl⟩
        go_wp2_with fail
        refine (step_any l2 bk _ c4 f4).mono ?_
        intro e x6 hp
        rcases h3 : rStep l2 with _ | ⟨s, l3⟩
        · rw [h3] at hp
          obtain ⟨rfl, o6⟩ := hp
          refine ⟨rfl, ?_⟩
          rw [HP.out, h3]
          exact ⟨rfl, o04.trans o6⟩
        rw [h3] at hp
        obtain ⟨rfl, o6, c6⟩ := hp
        have H3 := Lib.hid h3; clear h3
        go_wp2
        refine bodyPost_ret (v := tri (a, b, s)) (by simp [results, Tryz.results122, tri]) rfl ?_
        rw [HP.out, H3.out]
        exact ⟨rfl, o04.trans o6, c6⟩
      · go_wp2_with fail
        refine (need_not _ (decide_eq_false (by omega)) _).mono ?_
        rintro e x5 ⟨rfl, rfl⟩
        refine ⟨rfl, ?_⟩
        rw [HQ.out, H2.out, Option.bind_some, if_neg (show ¬ a ≤ b by omega)]
        exact ⟨rfl, o04⟩
    · have HP := Lib.hid (show rPiece f l = some ((a, a, 1), l1) by rw [HR.out, H1.out, Option.bind_some, if_neg hd])
      go_wp2_with fail
      refine (skip_no 45 l1 hd bk _ c2 f2).mono ?_
      rintro e x3 ⟨rfl, o3, c3⟩
      go_wp2
      refine bodyPost_ret (v := tri (a, a, 1)) (by simp [results, Tryz.results122, tri]) rfl ?_
      rw [HP.out]
      exact ⟨rfl, o02.trans o3, c3⟩
end Go.Proofs.YtilgamjahediiaaGreatDoor
