/- Contracts of package cron: the reader's signs and digits. -/
import Derived.Test.YtcmdjpgabkjbpaaGreatDoorBsSt
import Derived.Test.YtcmdjpgabkjbpaaGreatDoorCrCase
import Derived.WalkLawsBesides
set_option linter.unusedVariables false
namespace Go.Proofs.YtcmdjpgabkjbpaaGreatDoor
open Go.ChangeShapes Go.WideShapes Go.ChangeAt Go.RowKit
open Crn
/-- nothing has turned but a reader's text (blocks may have come behind) -/
structure Only (bk : Nat) (w w' : World) : Prop where
  os : w'.os = w.os
  output : w'.output = w.output
  tape : w'.tape = w.tape
  size : w.heap.size ≤ w'.heap.size
  block : ∀ k, k < w.heap.size → k ≠ bk → w'.heap[k]? = w.heap[k]?
  frozen : w'.frozen? ⟨bk, 0, none⟩ = w.frozen? ⟨bk, 0, none⟩
theorem Only.refl (bk : Nat) (w : World) : Only bk w w := ⟨rfl, rfl, rfl, Nat.le_refl _, fun _ _ _ => rfl, rfl⟩
theorem Only.trans {bk : Nat} {a b c : World} (h : Only bk a b) (k : Only bk b c) : Only bk a c :=
  ⟨k.os.trans h.os, k.output.trans h.output, k.tape.trans h.tape, Nat.le_trans h.size k.size, fun i hi hn => (k.block i (Nat.lt_of_lt_of_le hi h.size) hn).trans (h.block i hi hn), k.frozen.trans h.frozen⟩
theorem Only.set (bk : Nat) (w : World) (v : Value) : Only bk w (w.setCell ⟨bk, 0, none⟩ v) :=
  ⟨rfl, rfl, rfl, by simp [World.setCell], fun k hk hn => Below.heap_setCell _ _ _ _ hn, World.frozen?_setCell _ _ _ _⟩
theorem Only.kept {bk : Nat} {w w' : World} (h : Kept w w') (hb : bk < w.heap.size) : Only bk w w' :=
  ⟨h.os, h.output, h.tape, h.size, fun k hk _ => h.block k hk, h.frozen (a := ⟨bk, 0, none⟩) hb⟩
theorem lt_cell {w : World} {bk j : Nat} {v : Value} (h : w.cell? ⟨bk, j, none⟩ = some v) : bk < w.heap.size := by
  apply Classical.byContradiction
  intro hn
  unfold World.cell? at h
  rw [Array.getElem?_eq_none (by show w.heap.size ≤ bk; omega)] at h
  simp at h
theorem extract_mk (l : List UInt8) (a b : Nat) : (ByteArray.mk l.toArray).extract a b = ⟨((l.drop a).take (b - a)).toArray⟩ := by
  apply ByteArray.ext
  simp [ByteArray.data_extract, List.take_drop]
abbrev faultV : Value := .iface 65 (.agg #[.int .i64 2])
abbrev gone : Ending := .panicked [{ v := faultV, recovered := false }]
theorem need_yes (w : World) : Calls Tryz.prog 50 #[.bool true] w fun e w' => e = .returned (.tuple #[]) ∧ w = w' := by
  go_enter Tryz.func50, Tryz.ntmps50
  go_wp2
  exact bodyPost_end (v := .tuple #[]) (by simp [results, Tryz.results50]) rfl ⟨rfl, rfl⟩
theorem need_no (w : World) : Calls Tryz.prog 50 #[.bool false] w fun e w' => e = gone ∧ w = w' := by
  go_enter Tryz.func50, Tryz.ntmps50
  go_wp2
  exact ⟨rfl, rfl, rfl⟩
theorem need_not (b : Bool) (h : b = false) (w : World) : Calls Tryz.prog 50 #[.bool b] w fun e w' => e = gone ∧ w = w' := by subst h; exact need_no w
theorem need_ok (b : Bool) (h : b = true) (w : World) : Calls Tryz.prog 50 #[.bool b] w fun e w' => e = .returned (.tuple #[]) ∧ w = w' := by subst h; exact need_yes w
/-- a step of the reader: it takes something off the text, or panics -/
def RdPost (o : Option (Value × List UInt8)) (bk : Nat) (w : World) (e : Ending) (w' : World) : Prop :=
  match o with
  | none => e = gone ∧ Only bk w w'
  | some (v, r) => e = .returned v ∧ Only bk w w' ∧ w'.cell? ⟨bk, 0, none⟩ = some (.string ⟨r.toArray⟩)
theorem at0 (c : UInt8) (r : List UInt8) (h : 0 < (ByteArray.mk (c :: r).toArray).size) : (ByteArray.mk (c :: r).toArray)[0]'h = c := rfl
/-! One digit. -/
def hdD (l : List UInt8) : Bool := match l with | [] => false | a :: _ => isD a
theorem hasDigit_any (l : List UInt8) (bk : Nat) (w : World) (hc : w.cell? ⟨bk, 0, none⟩ = some (.string ⟨l.toArray⟩)) :
    Calls Tryz.prog 116 #[.pointer (some ⟨bk, 0, none⟩)] w fun e w' => e = .returned (.bool (hdD l)) ∧ w = w' := by
  cases l with
  | nil =>
    go_enter Tryz.func116, Tryz.ntmps116
    go_wp2
    go_ret
    exact ⟨rfl, rfl⟩
  | cons a r =>
    have hs : ¬ (ByteArray.mk (a :: r).toArray) = ⟨#[]⟩ := by intro h; injection h with h; simp at h
    have hb : hdD (a :: r) = (decide ((48 : Int) ≤ (a.toNat : Int)) && decide ((a.toNat : Int) ≤ 57)) := by
      show isD a = _
      unfold isD; rw [Bool.decide_and]; congr 1 <;> (apply decide_eq_decide.2; omega)
    by_cases h1 : (48 : Int) ≤ (a.toNat : Int)
    · by_cases h2 : (a.toNat : Int) ≤ 57
      all_goals
        have HB := Lib.hid hb; clear hb
        go_enter Tryz.func116, Tryz.ntmps116
        go_wp2
        go_ret
        refine ⟨ret_bool ?_, rfl⟩
        rw [HB.out]; simp [at0, h1, h2]
    · have HB := Lib.hid hb; clear hb
      go_enter Tryz.func116, Tryz.ntmps116
      go_wp2
      go_ret
      refine ⟨ret_bool ?_, rfl⟩
      rw [HB.out]; simp; intros; omega
theorem digit_any (a : UInt8) (r : List UInt8) (bk : Nat) (w : World) (hd : isD a = true) (hc : w.cell? ⟨bk, 0, none⟩ = some (.string ⟨(a :: r).toArray⟩)) (hf : w.frozen? ⟨bk, 0, none⟩ = false) :
    Calls Tryz.prog 117 #[.pointer (some ⟨bk, 0, none⟩)] w (RdPost (some (.int .i64 (dv a), r)) bk w) := by
  have hd2 := hd
  unfold isD at hd2
  simp at hd2
  have hx : (ByteArray.mk (a :: r).toArray).extract 1 (r.length + 1) = ⟨r.toArray⟩ := by rw [extract_mk]; simp
  go_enter Tryz.func117, Tryz.ntmps117
  go_wp2_with fail
  rw [at0]
  go_wp2
  go_ret
  exact ⟨ret_int (show ((a.toNat : Int) - 48) % 256 = dv a by unfold dv; omega), Only.set _ _ _, World.cell?_setCell_same _ _ _ hc⟩
theorem rdg_two (a b : UInt8) (r : List UInt8) (ha : isD a = true) (hb : isD b = true) : rDig (a :: b :: r) = some (dv a * 10 + dv b, r) := by rw [rDig, if_pos ha, if_pos hb]
theorem rdg_one (a : UInt8) (r : List UInt8) (ha : isD a = true) (hb : hdD r = false) : rDig (a :: r) = some (dv a, r) := by
  cases r with
  | nil => rw [rDig, if_pos ha]
  | cons b r => rw [rDig, if_pos ha, if_neg (by rw [show isD b = false from hb]; decide)]
theorem rdg_no (l : List UInt8) (h : hdD l = false) : rDig l = none := by
  rcases l with _ | ⟨a, _ | ⟨b, r⟩⟩
  · rfl
  · rw [rDig, if_neg (by rw [show isD a = false from h]; decide)]
  · rw [rDig, if_neg (by rw [show isD a = false from h]; decide)]
theorem digits_any (l : List UInt8) (bk : Nat) (w : World) (hc : w.cell? ⟨bk, 0, none⟩ = some (.string ⟨l.toArray⟩)) (hf : w.frozen? ⟨bk, 0, none⟩ = false) :
    Calls Tryz.prog 93 #[.pointer (some ⟨bk, 0, none⟩)] w (RdPost ((rDig l).map fun p => (.int .i64 p.1, p.2)) bk w) := by
  cases h0 : hdD l with
  | false =>
    rw [rdg_no l h0]
    go_enter Tryz.func93, Tryz.ntmps93
    go_wp2_with fail
    refine (hasDigit_any l bk _ hc).mono ?_
    rintro e w1 ⟨rfl, rfl⟩
    rw [h0]
    go_wp2_with fail
    refine (need_no _).mono ?_
    rintro e w2 ⟨rfl, rfl⟩
    exact ⟨rfl, rfl, Only.refl _ _⟩
  | true =>
    obtain ⟨a, r, rfl⟩ : ∃ a r, l = a :: r := by
      cases l with
      | nil => cases h0
      | cons a r => exact ⟨a, r, rfl⟩
    have ha : isD a = true := h0
    have da := dv_bd ha
    go_enter Tryz.func93, Tryz.ntmps93
    go_wp2_with fail
    refine (hasDigit_any _ bk _ hc).mono ?_
    rintro e w1 ⟨rfl, rfl⟩
    rw [h0]
    go_wp2_with fail
    refine (need_yes _).mono ?_
    rintro e w2 ⟨rfl, rfl⟩
    go_wp2_with fail
    refine (digit_any a r bk _ ha hc hf).mono ?_
    rintro e w3 ⟨rfl, o3, c3⟩
    have f3 := o3.frozen.trans hf
    go_wp2_with fail
    refine (hasDigit_any r bk _ c3).mono ?_
    rintro e w4 ⟨rfl, rfl⟩
    cases h1 : hdD r with
    | false =>
      have HR := Lib.hid (rdg_one a r ha h1)
      go_wp2
      go_ret
      rw [HR.out]
      exact ⟨rfl, o3, c3⟩
    | true =>
      obtain ⟨b, r2, rfl⟩ : ∃ b r2, r = b :: r2 := by
        cases r with
        | nil => cases h1
        | cons b r2 => exact ⟨b, r2, rfl⟩
      have hb : isD b = true := h1
      have db := dv_bd hb
      have HR := Lib.hid (rdg_two a b r2 ha hb)
      go_wp2_with fail
      refine (digit_any b r2 bk _ hb c3 f3).mono ?_
      rintro e w5 ⟨rfl, o5, c5⟩
      go_wp2
      go_ret
      rw [HR.out]
      exact ⟨rfl, o3.trans o5, c5⟩
/-! One sign. -/
def skp (c : UInt8) (l : List UInt8) : List UInt8 := if l.head? = some c then l.tail else l
theorem cut_pre (c : UInt8) (l : List UInt8) : Lib.trimPrefix l [c] = skp c l ∧ Lib.hasPrefix l [c] = decide (l.head? = some c) := by
  unfold skp
  cases l with
  | nil => simp [Lib.trimPrefix, Lib.hasPrefix]
  | cons b r =>
    by_cases hb : c = b
    · subst hb; simp [Lib.trimPrefix, Lib.hasPrefix]
    · have h2 : ¬ b = c := fun e => hb e.symm
      have h3 : (c == b) = false := beq_eq_false_iff_ne.2 hb
      simp [Lib.trimPrefix, Lib.hasPrefix, List.isPrefixOf, h2, h3]
theorem skip_any (c : UInt8) (l : List UInt8) (bk : Nat) (w : World) (hc : w.cell? ⟨bk, 0, none⟩ = some (.string ⟨l.toArray⟩)) (hf : w.frozen? ⟨bk, 0, none⟩ = false) :
    Calls Tryz.prog 79 #[.pointer (some ⟨bk, 0, none⟩), .string ⟨[c].toArray⟩] w (RdPost (some (.bool (decide (l.head? = some c)), skp c l)) bk w) := by
  have hs := Lib.hid (cut_pre c l)
  go_enter Tryz.func79, Tryz.ntmps79
  go_wp2_with fail
  refine (Tryz.strings_CutPrefix _ _ _).mono ?_
  rintro e w1 ⟨rfl, rfl⟩
  simp only [hs.out.1, hs.out.2]
  go_wp2
  go_ret
  exact ⟨rfl, Only.set _ _ _, World.cell?_setCell_same _ _ _ hc⟩
theorem skip_yes (c : UInt8) (r : List UInt8) (bk : Nat) (w : World) (hc : w.cell? ⟨bk, 0, none⟩ = some (.string ⟨(c :: r).toArray⟩)) (hf : w.frozen? ⟨bk, 0, none⟩ = false) :
    Calls Tryz.prog 79 #[.pointer (some ⟨bk, 0, none⟩), .string ⟨[c].toArray⟩] w (RdPost (some (.bool true, r)) bk w) := by
  have := skip_any c (c :: r) bk w hc hf
  simpa [skp] using this
theorem skip_no (c : UInt8) (l : List UInt8) (hn : l.head? ≠ some c) (bk : Nat) (w : World) (hc : w.cell? ⟨bk, 0, none⟩ = some (.string ⟨l.toArray⟩)) (hf : w.frozen? ⟨bk, 0, none⟩ = false) :
    Calls Tryz.prog 79 #[.pointer (some ⟨bk, 0, none⟩), .string ⟨[c].toArray⟩] w (RdPost (some (.bool false, l)) bk w) := by
  have := skip_any c l bk w hc hf
  rw [skp, if_neg hn, decide_eq_false hn] at this
  exact this
theorem step_any (l : List UInt8) (bk : Nat) (w : World) (hc : w.cell? ⟨bk, 0, none⟩ = some (.string ⟨l.toArray⟩)) (hf : w.frozen? ⟨bk, 0, none⟩ = false) :
    Calls Tryz.prog 80 #[.pointer (some ⟨bk, 0, none⟩)] w (RdPost ((rStep l).map fun p => (.int .i64 p.1, p.2)) bk w) := by
  by_cases hh : l.head? = some 47
  · obtain ⟨r, rfl⟩ : ∃ r, l = 47 :: r := by
      cases l with
      | nil => cases hh
      | cons a r => injection hh with hh; subst hh; exact ⟨r, rfl⟩
    have hr : rStep (47 :: r) = (rDig r).bind fun p => if 0 < p.1 then some p else none := by rw [rStep, if_pos hh]; rfl
    have HR := Lib.hid hr; clear hr hh
    go_enter Tryz.func80, Tryz.ntmps80
    go_wp2_with fail
    refine (skip_yes 47 r bk _ hc hf).mono ?_
    rintro e w1 ⟨rfl, o1, c1⟩
    have f1 := o1.frozen.trans hf
    go_wp2_with fail
    refine (digits_any r bk _ c1 f1).mono ?_
    intro e w2 hp
    rcases hd : rDig r with _ | ⟨n, r2⟩
    · rw [hd] at hp
      obtain ⟨rfl, o2⟩ := hp
      refine ⟨rfl, ?_⟩
      rw [HR.out, hd]
      exact ⟨rfl, o1.trans o2⟩
    · rw [hd] at hp
      obtain ⟨rfl, o2, c2⟩ := hp
      have HD := Lib.hid hd; clear hd
      by_cases hn : 0 < n
      · go_wp2_with fail
        refine (need_yes _).mono ?_
        rintro e w3 ⟨rfl, rfl⟩
        go_wp2
        go_ret
        rw [HR.out, HD.out]
        simp only [Option.bind_some, if_pos hn]
        exact ⟨rfl, o1.trans o2, c2⟩
      · go_wp2_with fail
        refine (need_not _ (decide_eq_false (by omega)) _).mono ?_
        rintro e w3 ⟨rfl, rfl⟩
        refine ⟨rfl, ?_⟩
        rw [HR.out, HD.out]
        simp only [Option.bind_some, if_neg (show ¬ 0 < n by omega)]
        exact ⟨rfl, o1.trans o2⟩
  · have HR := Lib.hid (show rStep l = some (1, l) by rw [rStep, if_neg hh])
    go_enter Tryz.func80, Tryz.ntmps80
    go_wp2_with fail
    refine (skip_no 47 l hh bk _ hc hf).mono ?_
    rintro e w1 ⟨rfl, o1, c1⟩
    go_wp2
    go_ret
    rw [HR.out]
    exact ⟨rfl, o1, c1⟩
/-! One number. -/
abbrev fld (f : Nat) : Value := .agg #[.int .i64 (lo f), .int .i64 (hi f), .int .i64 (wr f), .string ⟨(nms f).toArray⟩]
abbrev fldO (f : Nat) : Obj := .cells #[.int .i64 (lo f), .int .i64 (hi f), .int .i64 (wr f), .string ⟨(nms f).toArray⟩] 57
theorem nms_len (f : Nat) : (nms f).length ≤ 36 ∧ (nms f).length % 3 = 0 := by unfold nms; split <;> decide
/-- where the search stands -/
theorem fnd_step (N t : List UInt8) (k : Nat) (i : Int) (h : 3 * k + 3 ≤ N.length) :
    fnd (N.drop (3 * k)) t i = if (N.drop (3 * k)).take 3 = t then some i else fnd (N.drop (3 * (k + 1))) t (i + 1) := by
  have hd : N.drop (3 * (k + 1)) = (N.drop (3 * k)).drop 3 := by rw [List.drop_drop]; congr 1
  have hl : (N.drop (3 * k)).length = N.length - 3 * k := List.length_drop
  rw [hd]
  rcases hN : N.drop (3 * k) with _ | ⟨a, _ | ⟨b, _ | ⟨c, r⟩⟩⟩
  · rw [hN] at hl; simp at hl; omega
  · rw [hN] at hl; simp at hl; omega
  · rw [hN] at hl; simp at hl; omega
  · rw [fnd]; rfl
def NamedPost (o : Option Int) (w : World) (e : Ending) (w' : World) : Prop :=
  match o with
  | none => e = .returned (.tuple #[.int .i64 0, .bool false]) ∧ Kept w w'
  | some n => e = .returned (.tuple #[.int .i64 n, .bool true]) ∧ Kept w w'
theorem new_cell (w : World) (cs : Array Value) (t : TypeId) (j : Nat) (v : Value) (h : cs[j]? = some v) : (w.alloc (.cells cs t)).cell? ⟨w.heap.size, j, none⟩ = some v := by
  unfold World.cell?
  rw [show (w.alloc (.cells cs t)).heap = w.heap.push (.cells cs t) from rfl]
  simp [h]
set_option maxHeartbeats 1000000 in
theorem named_any (f : Nat) (t : List UInt8) (w : World) :
    Calls Tryz.prog 118 #[fld f, .string ⟨t.toArray⟩] w (NamedPost (fnd (nms f) t (lo f)) w) := by
  obtain ⟨hl, h3⟩ := nms_len f
  have hlo := lo_bd f
  have g0 := new_cell w #[.int .i64 (lo f), .int .i64 (hi f), .int .i64 (wr f), .string ⟨(nms f).toArray⟩] 57 0 _ rfl
  have g3 := new_cell w #[.int .i64 (lo f), .int .i64 (hi f), .int .i64 (wr f), .string ⟨(nms f).toArray⟩] 57 3 _ rfl
  have k0 := (Kept.refl w).alloc (fldO f)
  go_enter Tryz.func118, Tryz.ntmps118
  go_upto_region 1 with (fail)
  generalize w.alloc (fldO f) = x at *
  generalize hLo : lo f = L at *
  generalize hN : nms f = N at *
  go_wp2_with fail
  go_loopw [6] (fun i wx => wx = x ∧ ∃ k : Nat, i = .int .i64 ((3 * k : Nat) : Int) ∧ 3 * k ≤ N.length ∧ fnd N t L = fnd (N.drop (3 * k)) t (L + k)) (fun i _ => 36 - (intOf i).toNat)
  case atStart => exact ⟨rfl, 0, rfl, by omega, by simp⟩
  case round =>
    obtain ⟨rfl, k, rfl, hk, hf⟩ := hrel
    have HF := Lib.hid hf; clear hf
    by_cases hlt : 3 * k < N.length
    · have hk3 : 3 * k + 3 ≤ N.length := by omega
      have hx : (ByteArray.mk N.toArray).extract (3 * k) (3 * k + 3) = ⟨((N.drop (3 * k)).take 3).toArray⟩ := by rw [extract_mk]; congr 3; omega
      have hs := fnd_step N t k (L + k) hk3
      by_cases he : (N.drop (3 * k)).take 3 = t
      · rw [if_pos he] at hs
        have HS := Lib.hid (HF.out.trans hs); clear hs
        go_wp2
        go_ret2
        rw [HS.out]
        exact ⟨rfl, k0⟩
      · rw [if_neg he] at hs
        have HS := Lib.hid (HF.out.trans hs); clear hs
        have hb : ((N.drop (3 * k)).take 3 == t) = false := beq_eq_false_iff_ne.2 he
        clear he
        go_wp2
        go_roundw
        case rel => exact ⟨trivial, k + 1, by go_num, by omega, by rw [HS.out]; congr 1; omega⟩
        case measure => simp [intOf]; omega
    · have HS := Lib.hid (show fnd N t L = none by rw [HF.out, List.drop_eq_nil_of_le (by omega)]; rfl)
      go_wp2
      go_ret2
      rw [HS.out]
      exact ⟨rfl, k0⟩
end Go.Proofs.YtcmdjpgabkjbpaaGreatDoor
