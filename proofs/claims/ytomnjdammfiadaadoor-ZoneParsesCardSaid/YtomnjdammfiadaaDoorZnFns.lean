/- Contracts of package zone, call by call: signs, names, rules, whether a zone may be. -/
import Derived.Test.YtomnjdammfiadaaDoorShelf
import Derived.Test.YtomnjdammfiadaaDoorKept
import Derived.Test.YtomnjdammfiadaaDoorZnPure
import Derived.Lib.ItoaMem
import Derived.WalkLawsBesides
namespace Go.Proofs.YtomnjdammfiadaaDoor
open Go.ChangeShapes Go.WideShapes Go.ChangeAt Go.RowKit
open Zn
def Tab (w : World) : Prop := Lib.TabIs Tryd.prog w "internal/strconv.uint64pow10" .u64 Lib.pow10Tab
theorem Kept.tab' {w w' : World} (h : Kept w w') (t : Tab w) : Tab w' := Kept.tab h t
theorem ret_bool {a b : Bool} (h : a = b) : Ending.returned (.bool a) = .returned (.bool b) := by rw [h]
def wiB (n a b : Int) : Bool := decide (a ≤ n ∧ n ≤ b)
theorem within_any (n a b : Int) (w : World) :
    Calls Tryd.prog 28 #[.int .i64 n, .int .i64 a, .int .i64 b] w fun e w' => e = .returned (.bool (wiB n a b)) ∧ w = w' := by
  go_enter Tryd.func28, Tryd.ntmps28
  go_wp2
  all_goals (go_ret; refine ⟨ret_bool ?_, rfl⟩; first | (simp [wiB, *]; done) | (simp [wiB, *]; intros; omega))
theorem letter_any (c : UInt8) (w : World) :
    Calls Tryd.prog 37 #[.int .u8 c.toNat] w fun e w' => e = .returned (.bool (ltr c)) ∧ w = w' := by
  go_enter Tryd.func37, Tryd.ntmps37
  go_wp2
  all_goals (go_ret; refine ⟨ret_bool ?_, rfl⟩; simp only [ltr]; first | (simp [*]; done) | (simp; omega) | (rw [Bool.eq_iff_iff]; simp only [Bool.or_eq_true, decide_eq_true_eq]; omega))
theorem digit_any (c : UInt8) (w : World) :
    Calls Tryd.prog 52 #[.int .u8 c.toNat] w fun e w' => e = .returned (.bool (dgt c)) ∧ w = w' := by
  go_enter Tryd.func52, Tryd.ntmps52
  go_wp2
  all_goals (go_ret; refine ⟨ret_bool ?_, rfl⟩; simp only [dgt]; first | (simp [*]; done) | (simp; omega) | (rw [decide_eq_decide]; omega))
theorem pm_idx (c : UInt8) : decide (0 ≤ Lib.indexByte [43, 45] c) = decide (c.toNat = 43 ∨ c.toNat = 45) := by
  simp only [Lib.indexByte]
  by_cases h1 : c = 43
  · subst h1; decide
  · by_cases h2 : c = 45
    · subst h2; decide
    · have e1 : ((43 : UInt8) == c) = false := by simpa using fun h : (43 : UInt8) = c => h1 h.symm
      have e2 : ((45 : UInt8) == c) = false := by simpa using fun h : (45 : UInt8) = c => h2 h.symm
      have n1 : ¬ c.toNat = 43 := fun h => h1 (UInt8.toNat_inj.1 h)
      have n2 : ¬ c.toNat = 45 := fun h => h2 (UInt8.toNat_inj.1 h)
      simp [e1, e2, n1, n2]
theorem index_any (those : List UInt8) (c : UInt8) (w : World) :
    Calls Tryd.prog 53 #[.string ⟨those.toArray⟩, .int .u8 c.toNat] w fun e w' => e = .returned (.int .i64 (Lib.indexByte those c)) ∧ w = w' := by
  refine (Tryd.strings_IndexByte _ _ _).mono ?_
  rintro e w1 ⟨rfl, rfl⟩
  exact ⟨by simp, rfl⟩
theorem nameByte_any (c : UInt8) (w : World) :
    Calls Tryd.prog 43 #[.int .u8 c.toNat] w fun e w' => e = .returned (.bool (nmb c)) ∧ w = w' := by
  have hp := Lib.hid (pm_idx c)
  have hn := Lib.hid (show nmb c = (ltr c || (dgt c || decide (c.toNat = 43 ∨ c.toNat = 45))) by
    rw [Bool.eq_iff_iff]; simp only [nmb, ltr, dgt, Bool.or_eq_true, decide_eq_true_eq]; omega)
  go_enter Tryd.func43, Tryd.ntmps43
  go_wp2_with fail
  refine (letter_any c _).mono ?_
  rintro e w1 ⟨rfl, rfl⟩
  cases hl : ltr c with
  | true =>
    go_wp2
    go_ret
    exact ⟨ret_bool (by rw [hn.out, hl]; rfl), rfl⟩
  | false =>
    go_wp2_with fail
    refine (digit_any c _).mono ?_
    rintro e w1 ⟨rfl, rfl⟩
    cases hd : dgt c with
    | true =>
      go_wp2
      go_ret
      exact ⟨ret_bool (by rw [hn.out, hl, hd]; rfl), rfl⟩
    | false =>
      go_wp2_with fail
      refine (index_any [43, 45] c _).mono ?_
      rintro e w1 ⟨rfl, rfl⟩
      go_wp2
      go_ret
      exact ⟨ret_bool (by rw [hn.out, hl, hd, ← hp.out]; rfl), rfl⟩
theorem at_list (l : List UInt8) (k : Nat) (_ : k < l.length) (h' : k < (ByteArray.mk l.toArray).size) : (ByteArray.mk l.toArray)[k]'h' = l[k] := rfl
theorem tw_step (p : UInt8 → Bool) (l : List UInt8) (k : Nat) (h : k < l.length) : (l.drop k).takeWhile p = if p l[k] then l[k] :: (l.drop (k + 1)).takeWhile p else [] := by
  rw [List.drop_eq_getElem_cons h, List.takeWhile_cons]
def PrIn (p : UInt8 → Bool) (l : List UInt8) (a : Value) : Prop := ∃ k : Nat, k ≤ l.length ∧ a = .int .i64 k ∧ (l.takeWhile p).length = k + ((l.drop k).takeWhile p).length
set_option maxHeartbeats 1000000 in
theorem prefix_any (g : Nat) (p : UInt8 → Bool) (eg : ∀ args w, (callFunc g args).run Tryd.prog w = .ok (.enter g args) w) (hg : ∀ (c : UInt8) (w : World), Calls Tryd.prog g #[.int .u8 c.toNat] w fun e w' => e = .returned (.bool (p c)) ∧ w = w') (l : List UInt8) (w : World) (hl : l.length ≤ 1000000000) :
    Calls Tryd.prog 50 #[.string ⟨l.toArray⟩, .func (.func g) #[] #[]] w fun e w' => e = .returned (.int .i64 (l.takeWhile p).length) ∧ w = w' := by
  have HG := Lib.hid hg; clear hg
  go_enter Tryd.func50, Tryd.ntmps50
  go_wp2_with fail
  go_loop [5] (fun a => PrIn p l a) (fun a => l.length - (intOf a).toNat)
  case atStart => exact ⟨0, Nat.zero_le _, rfl, by simp⟩
  case round =>
    obtain ⟨k, hk, rfl, he⟩ := hrel
    have HE := Lib.hid he; clear he
    by_cases hlt : k < l.length
    · have hs := Lib.hid (tw_step p l k hlt)
      go_wp2_with fail
      rw [at_list l k hlt]
      refine (HG.out _ _).mono ?_
      rintro e w1 ⟨rfl, rfl⟩
      cases hp : p l[k] with
      | true =>
        have hs2 := Lib.hid (show (l.takeWhile p).length = (k + 1) + ((l.drop (k + 1)).takeWhile p).length by rw [HE.out, hs.out, hp, if_pos rfl, List.length_cons]; omega)
        clear hs
        go_wp2
        go_round
        case rel => exact ⟨k + 1, by omega, by go_num, hs2.out⟩
        case measure => simp [intOf]; omega
      | false =>
        have hs2 := Lib.hid (show (l.takeWhile p).length = k by rw [HE.out, hs.out, hp]; simp)
        clear hs
        go_wp2
        go_ret
        exact ⟨by rw [hs2.out]; rfl, rfl⟩
    · have hs2 := Lib.hid (show (l.takeWhile p).length = k by rw [HE.out, List.drop_of_length_le (by omega)]; simp)
      go_wp2
      go_ret
      exact ⟨by rw [hs2.out]; rfl, rfl⟩
theorem prefix_ltr (l : List UInt8) (w : World) (hl : l.length ≤ 1000000000) :
    Calls Tryd.prog 50 #[.string ⟨l.toArray⟩, .func (.func 37) #[] #[]] w fun e w' => e = .returned (.int .i64 (l.takeWhile ltr).length) ∧ w = w' :=
  prefix_any _ _ (fun _ _ => by simp [go_sem]) letter_any l w hl
theorem prefix_dgt (l : List UInt8) (w : World) (hl : l.length ≤ 1000000000) :
    Calls Tryd.prog 50 #[.string ⟨l.toArray⟩, .func (.func 52) #[] #[]] w fun e w' => e = .returned (.int .i64 (l.takeWhile dgt).length) ∧ w = w' :=
  prefix_any _ _ (fun _ _ => by simp [go_sem]) digit_any l w hl
theorem prefix_nmb (l : List UInt8) (w : World) (hl : l.length ≤ 1000000000) :
    Calls Tryd.prog 50 #[.string ⟨l.toArray⟩, .func (.func 43) #[] #[]] w fun e w' => e = .returned (.int .i64 (l.takeWhile nmb).length) ∧ w = w' :=
  prefix_any _ _ (fun _ _ => by simp [go_sem]) nameByte_any l w hl
theorem all_tw (p : UInt8 → Bool) (l : List UInt8) : decide ((l.takeWhile p).length = l.length) = l.all p := by
  induction l with
  | nil => simp
  | cons c r ih =>
    rw [List.takeWhile_cons, List.all_cons]
    cases p c with
    | true => simp only [if_true, List.length_cons, Bool.true_and, ← ih]; rw [decide_eq_decide]; omega
    | false => simp
theorem all_ltr (l : List UInt8) (w : World) (hl : l.length ≤ 1000000000) :
    Calls Tryd.prog 36 #[.string ⟨l.toArray⟩, .func (.func 37) #[] #[]] w fun e w' => e = .returned (.bool (l.all ltr)) ∧ w = w' := by
  have ha := Lib.hid (all_tw ltr l)
  go_enter Tryd.func36, Tryd.ntmps36
  go_wp2_with fail
  refine (prefix_ltr l _ hl).mono ?_
  rintro e w1 ⟨rfl, rfl⟩
  generalize (l.takeWhile ltr).length = n at *
  go_wp2
  go_ret
  exact ⟨ret_bool (by rw [← ha.out, Bool.eq_iff_iff]; simp; omega), rfl⟩
theorem all_nmb (l : List UInt8) (w : World) (hl : l.length ≤ 1000000000) :
    Calls Tryd.prog 36 #[.string ⟨l.toArray⟩, .func (.func 43) #[] #[]] w fun e w' => e = .returned (.bool (l.all nmb)) ∧ w = w' := by
  have ha := Lib.hid (all_tw nmb l)
  go_enter Tryd.func36, Tryd.ntmps36
  go_wp2_with fail
  refine (prefix_nmb l _ hl).mono ?_
  rintro e w1 ⟨rfl, rfl⟩
  generalize (l.takeWhile nmb).length = n at *
  go_wp2
  go_ret
  exact ⟨ret_bool (by rw [← ha.out, Bool.eq_iff_iff]; simp; omega), rfl⟩
theorem mayName_any (l : List UInt8) (w : World) :
    Calls Tryd.prog 27 #[.string ⟨l.toArray⟩] w fun e w' => e = .returned (.bool (mayN l)) ∧ w = w' := by
  have hm := Lib.hid (show mayN l = (wiB (l.length : Int) 3 10 && l.all nmb) by
    unfold mayN wiB; congr 1; rw [decide_eq_decide]; omega)
  go_enter Tryd.func27, Tryd.ntmps27
  go_wp2_with fail
  refine (within_any _ _ _ _).mono ?_
  rintro e w1 ⟨rfl, rfl⟩
  cases hw : wiB (l.length : Int) 3 10 with
  | false =>
    go_wp2
    go_ret
    exact ⟨ret_bool (by rw [hm.out, hw]; rfl), rfl⟩
  | true =>
    have hl : l.length ≤ 1000000000 := by simp [wiB] at hw; omega
    have HW := Lib.hid hw; clear hw
    have HL := Lib.hid hl; clear hl
    go_wp2_with fail
    refine (all_nmb l _ HL.out).mono ?_
    rintro e w1 ⟨rfl, rfl⟩
    go_wp2
    go_ret
    exact ⟨ret_bool (by rw [hm.out, HW.out]; rfl), rfl⟩
/-! Rules and zones, as values. -/
abbrev ruV (r : Ru) : Value := .agg #[.int .i64 r.k, .int .i64 r.m, .int .i64 r.w, .int .i64 r.d, .int .i64 r.a]
abbrev zoV (z : Zo) : Value := .agg #[.string ⟨z.std.toArray⟩, .int .i64 z.off, .bool z.has, .string ⟨z.dst.toArray⟩, .int .i64 z.ahead, .int .i64 z.fr.k, .int .i64 z.fr.m, .int .i64 z.fr.w, .int .i64 z.fr.d, .int .i64 z.fr.a, .int .i64 z.to.k, .int .i64 z.to.m, .int .i64 z.to.w, .int .i64 z.to.d, .int .i64 z.to.a]
def ruE (a b : Ru) : Bool := (a.k == b.k && (a.m == b.m && (a.w == b.w && (a.d == b.d && a.a == b.a))))
def zoE (a b : Zo) : Bool := (a.std == b.std && (a.off == b.off && (a.has == b.has && (a.dst == b.dst && (a.ahead == b.ahead && (ruE a.fr b.fr && ruE a.to b.to))))))
theorem ruE_iff (a b : Ru) : ruE a b = true ↔ a = b := by
  obtain ⟨a1, a2, a3, a4, a5⟩ := a
  obtain ⟨b1, b2, b3, b4, b5⟩ := b
  simp [ruE]
theorem zoE_iff (a b : Zo) : zoE a b = true ↔ a = b := by
  obtain ⟨a1, a2, a3, a4, a5, a6, a7⟩ := a
  obtain ⟨b1, b2, b3, b4, b5, b6, b7⟩ := b
  simp [zoE, ruE_iff]
theorem zoE_refl (a : Zo) : zoE a a = true := (zoE_iff a a).2 rfl
theorem zoE_no {a b : Zo} (h : a ≠ b) : zoE a b = false := by
  cases he : zoE a b with
  | false => rfl
  | true => exact absurd ((zoE_iff a b).1 he) h
theorem if_ok (c : Prop) [Decidable c] (x y : Bool) (w : World) : (if c then Result.ok x w else Result.ok y w) = Result.ok (if c then x else y) w := by split <;> rfl
theorem if_bb (c : Prop) [Decidable c] (b : Bool) : (if c then b else false) = (decide c && b) := by by_cases h : c <;> simp [h]
set_option maxRecDepth 100000 in
set_option maxHeartbeats 1000000 in
theorem eq_zone (a b : Zo) (w : World) : (Op.equalIn 10000 25 (zoV a) (zoV b)).run Tryd.prog w = .ok (zoE a b) w := by
  obtain ⟨a1, a2, a3, a4, a5, af, at'⟩ := a
  obtain ⟨b1, b2, b3, b4, b5, bf, bt⟩ := b
  have h1 : Tryd.prog.stoodInHeld 25 = false := by kernel_rfl
  have h2 : Tryd.prog.stoodInHeld 23 = false := by kernel_rfl
  rw [run_equalIn_struct w 9999 25 _ _ (by simp [go_sem]) h1]
  unfold zoE
  simp [go_sem]
  simp only [if_ok, if_bb, Bool.and_true]
  congr 1
  rw [Bool.eq_iff_iff]
  simp [ruE, and_assoc]
theorem eql_zone (a b : Zo) (w : World) : (binOp .eql 25 (zoV a) (zoV b)).run Tryd.prog w = .ok (.bool (zoE a b)) w := by
  rw [run_eql_struct, eq_zone]; rfl
theorem neq_zone (a b : Zo) (w : World) : (binOp .neq 25 (zoV a) (zoV b)).run Tryd.prog w = .ok (.bool (!zoE a b)) w := by
  rw [run_neq_struct, eq_zone]; rfl
theorem mayAhead_any (z : Zo) (w : World) (h1 : -89999 ≤ z.off) (h2 : z.off ≤ 89999) :
    Calls Tryd.prog 29 #[zoV z] w fun e w' => e = .returned (.bool (decide (z.ahead = z.off + 3600) || offB z.ahead)) ∧ Kept w w' := by
  obtain ⟨std, off, has, dst, ahead, ⟨fk, fm, fw, fd, fa⟩, ⟨tk, tm, tw, td, ta⟩⟩ := z
  have hw : wrap64 (off + 3600) = off + 3600 := by simp only at h1 h2; unfold wrap64; omega
  clear h1 h2
  by_cases he : ahead = off + 3600
  · subst he
    have hr := Lib.hid (show (decide (off + 3600 = off + 3600) || offB (off + 3600)) = true by simp)
    go_enter Tryd.func29, Tryd.ntmps29
    go_wp2
    go_ret
    exact ⟨ret_bool hr.out.symm, (Kept.refl _).alloc _⟩
  · have hr := Lib.hid (show (decide (ahead = off + 3600) || offB ahead) = offB ahead by simp [he])
    have hq : offB ahead = wiB ahead (-89999) 89999 := rfl
    have HQ := Lib.hid hq; clear hq
    go_enter Tryd.func29, Tryd.ntmps29
    go_wp2_with fail
    refine (within_any _ _ _ _).mono ?_
    rintro e w1 ⟨rfl, rfl⟩
    go_wp2
    go_ret
    exact ⟨ret_bool (by rw [Bool.eq_iff_iff]; simp [HQ.out]), (Kept.refl _).alloc _⟩
end Go.Proofs.YtomnjdammfiadaaDoor
