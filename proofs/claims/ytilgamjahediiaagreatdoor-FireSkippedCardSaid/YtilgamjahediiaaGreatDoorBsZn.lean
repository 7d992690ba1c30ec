/- Contracts of package zone: whether a zone may be; a zone in memory. -/
import Derived.Test.YtilgamjahediiaaGreatDoorShelf
import Derived.Test.YtilgamjahediiaaGreatDoorKept
import Derived.Test.YtilgamjahediiaaGreatDoorCivA
import Derived.Test.YtilgamjahediiaaGreatDoorBsZnPure
import Derived.WalkLawsBesides
import Derived.Deep.RegionHeld3
import Derived.WalkMore
import Derived.ScopeJumps
import Derived.IntWalk
import Derived.Deep.Cut
import Derived.Laws.ResultCell
namespace Go.Proofs.YtilgamjahediiaaGreatDoor
open Go.ChangeShapes Go.WideShapes Go.ChangeAt Go.RowKit
open Zn
def wiB (n a b : Int) : Bool := decide (a ≤ n ∧ n ≤ b)
theorem within_any (n a b : Int) (w : World) :
    Calls Tryz.prog 50 #[.int .i64 n, .int .i64 a, .int .i64 b] w fun e w' => e = .returned (.bool (wiB n a b)) ∧ w = w' := by
  go_enter Tryz.func50, Tryz.ntmps50
  go_wp2
  all_goals (go_ret; refine ⟨ret_bool ?_, rfl⟩; first | (simp [wiB, *]; done) | (simp [wiB, *]; intros; omega))
theorem letter_any (c : UInt8) (w : World) :
    Calls Tryz.prog 103 #[.int .u8 c.toNat] w fun e w' => e = .returned (.bool (ltr c)) ∧ w = w' := by
  go_enter Tryz.func103, Tryz.ntmps103
  go_wp2
  all_goals (go_ret; refine ⟨ret_bool ?_, rfl⟩; simp only [ltr]; first | (simp [*]; done) | (simp; omega) | (rw [Bool.eq_iff_iff]; simp only [Bool.or_eq_true, decide_eq_true_eq]; omega))
theorem digit_any (c : UInt8) (w : World) :
    Calls Tryz.prog 104 #[.int .u8 c.toNat] w fun e w' => e = .returned (.bool (dgt c)) ∧ w = w' := by
  go_enter Tryz.func104, Tryz.ntmps104
  go_wp2
  all_goals (go_ret; refine ⟨ret_bool ?_, rfl⟩; simp only [dgt]; first | (simp [*]; done) | (simp; omega) | (rw [decide_eq_decide]; omega))
theorem pm_idx (c : UInt8) : decide (0 ≤ Lib.indexByte [43, 45] c) = decide (c.toNat = 43 ∨ c.toNat = 45) := by
  simp only [Lib.indexByte]
  by_cases h1 : c = 43
  · subst h1; decide
  · by_cases h2 : c = 45
    · subst h2; decide
    · have e1 : ((43 : UInt8) == c) = false := by simpa using fun h : (43 : UInt8) = c => h1 h.symm
      have e2 : ((45 : UInt8) == c) = false := by simpa using fun h : (45 : UInt8) = c => h2 h.symm
      have n1 : ¬ c.toNat = 43 := fun h => h1 (UInt8.toNat_inj.1 h)
      have n2 : ¬ c.toNat = 45 := fun h => h2 (UInt8.toNat_inj.1 h)
      simp [e1, e2, n1, n2]
theorem index_any (those : List UInt8) (c : UInt8) (w : World) :
    Calls Tryz.prog 105 #[.string ⟨those.toArray⟩, .int .u8 c.toNat] w fun e w' => e = .returned (.int .i64 (Lib.indexByte those c)) ∧ w = w' := by
  refine (Tryz.strings_IndexByte _ _ _).mono ?_
  rintro e w1 ⟨rfl, rfl⟩
  exact ⟨by simp, rfl⟩
theorem nameByte_any (c : UInt8) (w : World) :
    Calls Tryz.prog 81 #[.int .u8 c.toNat] w fun e w' => e = .returned (.bool (nmb c)) ∧ w = w' := by
  have hp := Lib.hid (pm_idx c)
  have hn := Lib.hid (show nmb c = (ltr c || (dgt c || decide (c.toNat = 43 ∨ c.toNat = 45))) by
    rw [Bool.eq_iff_iff]; simp only [nmb, ltr, dgt, Bool.or_eq_true, decide_eq_true_eq]; omega)
  go_enter Tryz.func81, Tryz.ntmps81
  go_wp2_with fail
  refine (letter_any c _).mono ?_
  rintro e w1 ⟨rfl, rfl⟩
  cases hl : ltr c with
  | true =>
    go_wp2
    go_ret
    exact ⟨ret_bool (by rw [hn.out, hl]; rfl), rfl⟩
  | false =>
    go_wp2_with fail
    refine (digit_any c _).mono ?_
    rintro e w1 ⟨rfl, rfl⟩
    cases hd : dgt c with
    | true =>
      go_wp2
      go_ret
      exact ⟨ret_bool (by rw [hn.out, hl, hd]; rfl), rfl⟩
    | false =>
      go_wp2_with fail
      refine (index_any [43, 45] c _).mono ?_
      rintro e w1 ⟨rfl, rfl⟩
      go_wp2
      go_ret
      exact ⟨ret_bool (by rw [hn.out, hl, hd, ← hp.out]; rfl), rfl⟩
theorem at_list (l : List UInt8) (k : Nat) (_ : k < l.length) (h' : k < (ByteArray.mk l.toArray).size) : (ByteArray.mk l.toArray)[k]'h' = l[k] := rfl
theorem tw_step (p : UInt8 → Bool) (l : List UInt8) (k : Nat) (h : k < l.length) : (l.drop k).takeWhile p = if p l[k] then l[k] :: (l.drop (k + 1)).takeWhile p else [] := by
  rw [List.drop_eq_getElem_cons h, List.takeWhile_cons]
def PrIn (p : UInt8 → Bool) (l : List UInt8) (a : Value) : Prop := ∃ k : Nat, k ≤ l.length ∧ a = .int .i64 k ∧ (l.takeWhile p).length = k + ((l.drop k).takeWhile p).length
set_option maxHeartbeats 1000000 in
theorem prefix_any (g : Nat) (p : UInt8 → Bool) (eg : ∀ args w, (callFunc g args).run Tryz.prog w = .ok (.enter g args) w) (hg : ∀ (c : UInt8) (w : World), Calls Tryz.prog g #[.int .u8 c.toNat] w fun e w' => e = .returned (.bool (p c)) ∧ w = w') (l : List UInt8) (w : World) (hl : l.length ≤ 1000000000) :
    Calls Tryz.prog 102 #[.string ⟨l.toArray⟩, .func (.func g) #[] #[]] w fun e w' => e = .returned (.int .i64 (l.takeWhile p).length) ∧ w = w' := by
  have HG := Lib.hid hg; clear hg
  go_enter Tryz.func102, Tryz.ntmps102
  go_wp2_with fail
  go_loop [5] (fun a => PrIn p l a) (fun a => l.length - (intOf a).toNat)
  case atStart => exact ⟨0, Nat.zero_le _, rfl, by simp⟩
  case round =>
    obtain ⟨k, hk, rfl, he⟩ := hrel
    have HE := Lib.hid he; clear he
    by_cases hlt : k < l.length
    · have hs := Lib.hid (tw_step p l k hlt)
      go_wp2_with fail
      rw [at_list l k hlt]
      refine (HG.out _ _).mono ?_
      rintro e w1 ⟨rfl, rfl⟩
      cases hp : p l[k] with
      | true =>
        have hs2 := Lib.hid (show (l.takeWhile p).length = (k + 1) + ((l.drop (k + 1)).takeWhile p).length by rw [HE.out, hs.out, hp, if_pos rfl, List.length_cons]; omega)
        clear hs
        go_wp2
        go_round
        case rel => exact ⟨k + 1, by omega, by go_num, hs2.out⟩
        case measure => simp [intOf]; omega
      | false =>
        have hs2 := Lib.hid (show (l.takeWhile p).length = k by rw [HE.out, hs.out, hp]; simp)
        clear hs
        go_wp2
        go_ret
        exact ⟨by rw [hs2.out]; rfl, rfl⟩
    · have hs2 := Lib.hid (show (l.takeWhile p).length = k by rw [HE.out, List.drop_of_length_le (by omega)]; simp)
      go_wp2
      go_ret
      exact ⟨by rw [hs2.out]; rfl, rfl⟩
theorem prefix_nmb (l : List UInt8) (w : World) (hl : l.length ≤ 1000000000) :
    Calls Tryz.prog 102 #[.string ⟨l.toArray⟩, .func (.func 81) #[] #[]] w fun e w' => e = .returned (.int .i64 (l.takeWhile nmb).length) ∧ w = w' :=
  prefix_any _ _ (fun _ _ => by simp [go_sem]) nameByte_any l w hl
theorem all_tw (p : UInt8 → Bool) (l : List UInt8) : decide ((l.takeWhile p).length = l.length) = l.all p := by
  induction l with
  | nil => simp
  | cons c r ih =>
    rw [List.takeWhile_cons, List.all_cons]
    cases p c with
    | true => simp only [if_true, List.length_cons, Bool.true_and, ← ih]; rw [decide_eq_decide]; omega
    | false => simp
theorem all_nmb (l : List UInt8) (w : World) (hl : l.length ≤ 1000000000) :
    Calls Tryz.prog 80 #[.string ⟨l.toArray⟩, .func (.func 81) #[] #[]] w fun e w' => e = .returned (.bool (l.all nmb)) ∧ w = w' := by
  have ha := Lib.hid (all_tw nmb l)
  go_enter Tryz.func80, Tryz.ntmps80
  go_wp2_with fail
  refine (prefix_nmb l _ hl).mono ?_
  rintro e w1 ⟨rfl, rfl⟩
  generalize (l.takeWhile nmb).length = n at *
  go_wp2
  go_ret
  exact ⟨ret_bool (by rw [← ha.out, Bool.eq_iff_iff]; simp; omega), rfl⟩
theorem mayName_any (l : List UInt8) (w : World) :
    Calls Tryz.prog 49 #[.string ⟨l.toArray⟩] w fun e w' => e = .returned (.bool (mayN l)) ∧ w = w' := by
  have hm := Lib.hid (show mayN l = (wiB (l.length : Int) 3 10 && l.all nmb) by
    unfold mayN wiB; congr 1; rw [decide_eq_decide]; omega)
  go_enter Tryz.func49, Tryz.ntmps49
  go_wp2_with fail
  refine (within_any _ _ _ _).mono ?_
  rintro e w1 ⟨rfl, rfl⟩
  cases hw : wiB (l.length : Int) 3 10 with
  | false =>
    go_wp2
    go_ret
    exact ⟨ret_bool (by rw [hm.out, hw]; rfl), rfl⟩
  | true =>
    have hl : l.length ≤ 1000000000 := by simp [wiB] at hw; omega
    have HW := Lib.hid hw; clear hw
    have HL := Lib.hid hl; clear hl
    go_wp2_with fail
    refine (all_nmb l _ HL.out).mono ?_
    rintro e w1 ⟨rfl, rfl⟩
    go_wp2
    go_ret
    exact ⟨ret_bool (by rw [hm.out, HW.out]; rfl), rfl⟩
abbrev ruV (r : Ru) : Value := .agg #[.int .i64 r.k, .int .i64 r.m, .int .i64 r.w, .int .i64 r.d, .int .i64 r.a]
abbrev zoV (z : Zo) : Value := .agg #[.string ⟨z.std.toArray⟩, .int .i64 z.off, .bool z.has, .string ⟨z.dst.toArray⟩, .int .i64 z.ahead, .int .i64 z.fr.k, .int .i64 z.fr.m, .int .i64 z.fr.w, .int .i64 z.fr.d, .int .i64 z.fr.a, .int .i64 z.to.k, .int .i64 z.to.m, .int .i64 z.to.w, .int .i64 z.to.d, .int .i64 z.to.a]
def ruE (a b : Ru) : Bool := (a.k == b.k && (a.m == b.m && (a.w == b.w && (a.d == b.d && a.a == b.a))))
def zoE (a b : Zo) : Bool := (a.std == b.std && (a.off == b.off && (a.has == b.has && (a.dst == b.dst && (a.ahead == b.ahead && (ruE a.fr b.fr && ruE a.to b.to))))))
theorem ruE_iff (a b : Ru) : ruE a b = true ↔ a = b := by
  obtain ⟨a1, a2, a3, a4, a5⟩ := a
  obtain ⟨b1, b2, b3, b4, b5⟩ := b
  simp [ruE]
theorem zoE_iff (a b : Zo) : zoE a b = true ↔ a = b := by
  obtain ⟨a1, a2, a3, a4, a5, a6, a7⟩ := a
  obtain ⟨b1, b2, b3, b4, b5, b6, b7⟩ := b
  simp [zoE, ruE_iff]
theorem if_ok (c : Prop) [Decidable c] (x y : Bool) (w : World) : (if c then Result.ok x w else Result.ok y w) = Result.ok (if c then x else y) w := by split <;> rfl
theorem if_bb (c : Prop) [Decidable c] (b : Bool) : (if c then b else false) = (decide c && b) := by by_cases h : c <;> simp [h]
set_option maxRecDepth 100000 in
set_option maxHeartbeats 1000000 in
theorem eq_zone (a b : Zo) (w : World) : (Op.equalIn 10000 25 (zoV a) (zoV b)).run Tryz.prog w = .ok (zoE a b) w := by
  obtain ⟨a1, a2, a3, a4, a5, af, at'⟩ := a
  obtain ⟨b1, b2, b3, b4, b5, bf, bt⟩ := b
  have h1 : Tryz.prog.stoodInHeld 25 = false := by kernel_rfl
  have h2 : Tryz.prog.stoodInHeld 23 = false := by kernel_rfl
  rw [run_equalIn_struct w 9999 25 _ _ (by simp [go_sem]) h1]
  unfold zoE
  simp [go_sem]
  simp only [if_ok, if_bb, Bool.and_true]
  congr 1
  rw [Bool.eq_iff_iff]
  simp [ruE, and_assoc]
theorem eql_zone (a b : Zo) (w : World) : (binOp .eql 25 (zoV a) (zoV b)).run Tryz.prog w = .ok (.bool (zoE a b)) w := by
  rw [run_eql_struct, eq_zone]; rfl
theorem mayAhead_any (z : Zo) (w : World) (h1 : -89999 ≤ z.off) (h2 : z.off ≤ 89999) :
    Calls Tryz.prog 51 #[zoV z] w fun e w' => e = .returned (.bool (decide (z.ahead = z.off + 3600) || offB z.ahead)) ∧ Kept w w' := by
  obtain ⟨std, off, has, dst, ahead, ⟨fk, fm, fw, fd, fa⟩, ⟨tk, tm, tw, td, ta⟩⟩ := z
  have hw : wrap64 (off + 3600) = off + 3600 := by simp only at h1 h2; unfold wrap64; omega
  clear h1 h2
  by_cases he : ahead = off + 3600
  · subst he
    have hr := Lib.hid (show (decide (off + 3600 = off + 3600) || offB (off + 3600)) = true by simp)
    go_enter Tryz.func51, Tryz.ntmps51
    go_wp2
    go_ret
    exact ⟨ret_bool hr.out.symm, (Kept.refl _).alloc _⟩
  · have hr := Lib.hid (show (decide (ahead = off + 3600) || offB ahead) = offB ahead by simp [he])
    have hq : offB ahead = wiB ahead (-89999) 89999 := rfl
    have HQ := Lib.hid hq; clear hq
    go_enter Tryz.func51, Tryz.ntmps51
    go_wp2_with fail
    refine (within_any _ _ _ _).mono ?_
    rintro e w1 ⟨rfl, rfl⟩
    go_wp2
    go_ret
    exact ⟨ret_bool (by rw [Bool.eq_iff_iff]; simp [HQ.out]), (Kept.refl _).alloc _⟩
theorem within_yes (n a b : Int) (w : World) (h : wiB n a b = true) :
    Calls Tryz.prog 50 #[.int .i64 n, .int .i64 a, .int .i64 b] w fun e w' => e = .returned (.bool true) ∧ w = w' :=
  (within_any n a b w).mono fun _ _ ⟨he, hw⟩ => ⟨by rw [he, h], hw⟩
theorem within_no (n a b : Int) (w : World) (h : wiB n a b = false) :
    Calls Tryz.prog 50 #[.int .i64 n, .int .i64 a, .int .i64 b] w fun e w' => e = .returned (.bool false) ∧ w = w' :=
  (within_any n a b w).mono fun _ _ ⟨he, hw⟩ => ⟨by rw [he, h], hw⟩
/-- A scope in which the run jumps ahead to a label, and not again: what stands behind the label is walked from there. -/
theorem wp_scope_ahead {P : Program} {c rest : Code} {Q : Exit → Act → World → Prop} {a : Act} {w : World} (l : Nat) (hf : findLabel c l = some rest)
    (h : c.wp P (Exit.jump l (fun a w => rest.wp P (Exit.noGoto Q) a w) Q) a w) : (Code.scope c).wp P Q a w :=
  wp_scope_jumps l (fun a w => rest.wp P (Exit.noGoto Q) a w) (fun _ _ => 0) hf h fun a w hJ => wp_mono hJ fun e a' w' hq => by
    cases e <;> first | exact hq | exact hq.elim
set_option maxHeartbeats 1000000 in
theorem mayRule_at (k m x d a : Int) (w : World) (h : wiB a (-604799) 604799 = false) :
    Calls Tryz.prog 52 #[ruV ⟨k, m, x, d, a⟩] w fun e w' => e = .returned (.bool false) ∧ Kept w w' := by
  have H := Lib.hid h; clear h
  go_enter Tryz.func52, Tryz.ntmps52
  go_wp2_with fail
  go_step3
  go_wp2_with fail
  refine (within_no _ _ _ _ H.out).mono ?_
  rintro e w1 ⟨rfl, rfl⟩
  go_wp2
  (try go_step3)
  go_wp2
  try rw [Exit.noGoto_ret]
  go_ret
  exact ⟨rfl, (Kept.refl _).alloc _⟩
set_option maxHeartbeats 1000000 in
theorem mayRule_none (k m x d a : Int) (w : World) (h : wiB a (-604799) 604799 = true) (h0 : ¬ k = 0) (h1 : ¬ k = 1) (h2 : ¬ k = 2) :
    Calls Tryz.prog 52 #[ruV ⟨k, m, x, d, a⟩] w fun e w' => e = .returned (.bool false) ∧ Kept w w' := by
  have H := Lib.hid h; clear h
  go_enter Tryz.func52, Tryz.ntmps52
  go_wp2_with fail
  go_step3
  go_wp2_with fail
  refine (within_yes _ _ _ _ H.out).mono ?_
  rintro e w1 ⟨rfl, rfl⟩
  go_wp2
  (try go_step3)
  go_wp2
  try rw [Exit.noGoto_ret]
  go_ret
  exact ⟨rfl, (Kept.refl _).alloc _⟩
set_option maxHeartbeats 1000000 in
theorem mayRule_jul (m x d a : Int) (w : World) (h : wiB a (-604799) 604799 = true) :
    Calls Tryz.prog 52 #[ruV ⟨0, m, x, d, a⟩] w fun e w' => e = .returned (.bool (decide (m = 0) && decide (x = 0) && wiB d 1 365)) ∧ Kept w w' := by
  have H := Lib.hid h; clear h
  by_cases hm : m = 0
  · subst hm
    by_cases hx : x = 0
    · subst hx
      go_enter Tryz.func52, Tryz.ntmps52
      go_wp2_with fail
      refine wp_scope_ahead 0 rfl ?_
      go_wp2_with fail
      refine (within_yes _ _ _ _ H.out).mono ?_
      rintro e w1 ⟨rfl, rfl⟩
      go_wp2_with fail
      go_step3
      go_wp2_with fail
      go_step3
      refine ⟨rfl, ?_⟩
      go_wp2_with fail
      refine (within_any _ _ _ _).mono ?_
      rintro e w1 ⟨rfl, rfl⟩
      go_wp2
      try rw [Exit.noGoto_ret]
      go_ret
      exact ⟨ret_bool (by simp), (Kept.refl _).alloc _⟩
    · go_enter Tryz.func52, Tryz.ntmps52
      go_wp2_with fail
      refine wp_scope_ahead 0 rfl ?_
      go_wp2_with fail
      refine (within_yes _ _ _ _ H.out).mono ?_
      rintro e w1 ⟨rfl, rfl⟩
      go_wp2_with fail
      go_step3
      go_wp2_with fail
      go_step3
      refine ⟨rfl, ?_⟩
      go_wp2
      try rw [Exit.noGoto_ret]
      go_ret
      exact ⟨ret_bool (by simp [hx]), (Kept.refl _).alloc _⟩
  · go_enter Tryz.func52, Tryz.ntmps52
    go_wp2_with fail
    refine wp_scope_ahead 0 rfl ?_
    go_wp2_with fail
    refine (within_yes _ _ _ _ H.out).mono ?_
    rintro e w1 ⟨rfl, rfl⟩
    go_wp2_with fail
    go_step3
    go_wp2_with fail
    go_step3
    refine ⟨rfl, ?_⟩
    go_wp2
    try rw [Exit.noGoto_ret]
    go_ret
    exact ⟨ret_bool (by simp [hm]), (Kept.refl _).alloc _⟩
set_option maxHeartbeats 1000000 in
theorem mayRule_zer (m x d a : Int) (w : World) (h : wiB a (-604799) 604799 = true) :
    Calls Tryz.prog 52 #[ruV ⟨1, m, x, d, a⟩] w fun e w' => e = .returned (.bool (decide (m = 0) && decide (x = 0) && wiB d 0 365)) ∧ Kept w w' := by
  have H := Lib.hid h; clear h
  by_cases hm : m = 0
  · subst hm
    by_cases hx : x = 0
    · subst hx
      go_enter Tryz.func52, Tryz.ntmps52
      go_wp2_with fail
      refine wp_scope_ahead 0 rfl ?_
      go_wp2_with fail
      refine (within_yes _ _ _ _ H.out).mono ?_
      rintro e w1 ⟨rfl, rfl⟩
      go_wp2_with fail
      go_step3
      go_wp2_with fail
      go_step3
      refine ⟨rfl, ?_⟩
      go_wp2_with fail
      refine (within_any _ _ _ _).mono ?_
      rintro e w1 ⟨rfl, rfl⟩
      go_wp2
      try rw [Exit.noGoto_ret]
      go_ret
      exact ⟨ret_bool (by simp), (Kept.refl _).alloc _⟩
    · go_enter Tryz.func52, Tryz.ntmps52
      go_wp2_with fail
      refine wp_scope_ahead 0 rfl ?_
      go_wp2_with fail
      refine (within_yes _ _ _ _ H.out).mono ?_
      rintro e w1 ⟨rfl, rfl⟩
      go_wp2_with fail
      go_step3
      go_wp2_with fail
      go_step3
      refine ⟨rfl, ?_⟩
      go_wp2
      try rw [Exit.noGoto_ret]
      go_ret
      exact ⟨ret_bool (by simp [hx]), (Kept.refl _).alloc _⟩
  · go_enter Tryz.func52, Tryz.ntmps52
    go_wp2_with fail
    refine wp_scope_ahead 0 rfl ?_
    go_wp2_with fail
    refine (within_yes _ _ _ _ H.out).mono ?_
    rintro e w1 ⟨rfl, rfl⟩
    go_wp2_with fail
    go_step3
    go_wp2_with fail
    go_step3
    refine ⟨rfl, ?_⟩
    go_wp2
    try rw [Exit.noGoto_ret]
    go_ret
    exact ⟨ret_bool (by simp [hm]), (Kept.refl _).alloc _⟩
theorem cells_nlh : Tryz.prog.cellsOf 96 = 3 := by kernel_rfl
/-- An array by value, whose elements are structs, indexed within its length. -/
theorem run_index_str {P : Program} (w : World) (t e : TypeId) (n c : Nat) (cs : Array Value) (k : IntKind) (i : Int) {fs : Array Field}
    (h : P.underlying t = some (.array n e)) (he : P.underlying e = some (.struct fs)) (hi : (P.info? e).isSome = true) (hc : P.cellsOf e = c)
    (h0 : 0 ≤ i) (h1 : i < n) : (Instr.index t (.agg cs) (.int k i)).run P w = .ok (.agg (cs.extract (i.toNat * c) (i.toNat * c + c))) w := by
  obtain ⟨inf, hinf⟩ := Option.isSome_iff_exists.mp hi
  simp [Instr.index, run_underlying h, asIntOf, h0, h1, run_sizeOf _ hinf, hc, part, isAgg, run_underlying he, go_sem]
def NthIn (m x d : Int) (w : World) (i : Value) (y : World) : Prop := ∃ k : Nat, k ≤ 3 ∧ i = .int .i64 k ∧ (1 ≤ k → wiB m 1 12 = true) ∧ (2 ≤ k → wiB x 1 5 = true) ∧ (3 ≤ k → wiB d 0 6 = true) ∧ Kept w y
set_option maxRecDepth 100000 in
set_option maxHeartbeats 4000000 in
theorem mayRule_nth (m x d a : Int) (w : World) (h : wiB a (-604799) 604799 = true) :
    Calls Tryz.prog 52 #[ruV ⟨2, m, x, d, a⟩] w fun e w' => e = .returned (.bool (wiB m 1 12 && wiB x 1 5 && wiB d 0 6)) ∧ Kept w w' := by
  have H := Lib.hid h; clear h
  go_enter Tryz.func52, Tryz.ntmps52
  go_wp2_with fail
  go_step3
  go_wp2_with fail
  refine (within_yes _ _ _ _ H.out).mono ?_
  rintro e w1 ⟨rfl, rfl⟩
  go_wp2_with fail
  go_step3
  go_wp2_with fail
  generalize hW : w.alloc (.cells #[.int .i64 2, .int .i64 m, .int .i64 x, .int .i64 d, .int .i64 a] 23) = W at *
  have K0 := Lib.hid (show Kept w W by rw [← hW]; exact (Kept.refl _).alloc _)
  clear hW
  go_loopw [28] (fun i y => NthIn m x d W i y) (fun i _ => 4 - (intOf i).toNat)
  case atStart => exact ⟨0, by omega, rfl, by omega, by omega, by omega, Kept.refl _⟩
  case round =>
    obtain ⟨k, hk, rfl, p1, p2, p3, hkp⟩ := hrel
    have P1 := Lib.hid p1; clear p1
    have P2 := Lib.hid p2; clear p2
    have P3 := Lib.hid p3; clear p3
    rcases (show k = 0 ∨ k = 1 ∨ k = 2 ∨ k = 3 by omega) with rfl | rfl | rfl | rfl
    · have hx : ∀ W, (Instr.index 97 (.agg #[.int .i64 m, .int .i64 1, .int .i64 12, .int .i64 x, .int .i64 1, .int .i64 5, .int .i64 d, .int .i64 0, .int .i64 6]) (.int .i64 0)).run Tryz.prog W = .ok (.agg #[.int .i64 m, .int .i64 1, .int .i64 12]) W := fun W => run_index_str W _ _ 3 3 _ _ _ Tryz.underlying97 Tryz.underlying96 (by kernel_rfl) cells_nlh (by omega) (by omega)
      cases hq : wiB m 1 12 with
      | false =>
        have HQ := Lib.hid hq; clear hq
        go_wp2_with fail
        refine (within_no _ _ _ _ HQ.out).mono ?_
        rintro e w1 ⟨rfl, rfl⟩
        go_wp2
        (try go_step3)
        go_wp2
        try rw [Exit.noGoto_ret]
        go_ret
        exact ⟨ret_bool (by rw [HQ.out]; simp), K0.out.trans (hkp.alloc _)⟩
      | true =>
        have HQ := Lib.hid hq; clear hq
        go_wp2_with fail
        refine (within_yes _ _ _ _ HQ.out).mono ?_
        rintro e w1 ⟨rfl, rfl⟩
        go_wp2
        go_roundw
        case rel => exact ⟨1, by omega, by go_num, fun _ => HQ.out, by omega, by omega, hkp.alloc _⟩
        case measure => simp [intOf]
    · have hx : ∀ W, (Instr.index 97 (.agg #[.int .i64 m, .int .i64 1, .int .i64 12, .int .i64 x, .int .i64 1, .int .i64 5, .int .i64 d, .int .i64 0, .int .i64 6]) (.int .i64 1)).run Tryz.prog W = .ok (.agg #[.int .i64 x, .int .i64 1, .int .i64 5]) W := fun W => run_index_str W _ _ 3 3 _ _ _ Tryz.underlying97 Tryz.underlying96 (by kernel_rfl) cells_nlh (by omega) (by omega)
      cases hq : wiB x 1 5 with
      | false =>
        have HQ := Lib.hid hq; clear hq
        go_wp2_with fail
        refine (within_no _ _ _ _ HQ.out).mono ?_
        rintro e w1 ⟨rfl, rfl⟩
        go_wp2
        (try go_step3)
        go_wp2
        try rw [Exit.noGoto_ret]
        go_ret
        exact ⟨ret_bool (by rw [P1.out (by omega), HQ.out]; simp), K0.out.trans (hkp.alloc _)⟩
      | true =>
        have HQ := Lib.hid hq; clear hq
        go_wp2_with fail
        refine (within_yes _ _ _ _ HQ.out).mono ?_
        rintro e w1 ⟨rfl, rfl⟩
        go_wp2
        go_roundw
        case rel => exact ⟨2, by omega, by go_num, fun _ => P1.out (by omega), fun _ => HQ.out, by omega, hkp.alloc _⟩
        case measure => simp [intOf]
    · have hx : ∀ W, (Instr.index 97 (.agg #[.int .i64 m, .int .i64 1, .int .i64 12, .int .i64 x, .int .i64 1, .int .i64 5, .int .i64 d, .int .i64 0, .int .i64 6]) (.int .i64 2)).run Tryz.prog W = .ok (.agg #[.int .i64 d, .int .i64 0, .int .i64 6]) W := fun W => run_index_str W _ _ 3 3 _ _ _ Tryz.underlying97 Tryz.underlying96 (by kernel_rfl) cells_nlh (by omega) (by omega)
      cases hq : wiB d 0 6 with
      | false =>
        have HQ := Lib.hid hq; clear hq
        go_wp2_with fail
        refine (within_no _ _ _ _ HQ.out).mono ?_
        rintro e w1 ⟨rfl, rfl⟩
        go_wp2
        (try go_step3)
        go_wp2
        try rw [Exit.noGoto_ret]
        go_ret
        exact ⟨ret_bool (by rw [P1.out (by omega), P2.out (by omega), HQ.out]; simp), K0.out.trans (hkp.alloc _)⟩
      | true =>
        have HQ := Lib.hid hq; clear hq
        go_wp2_with fail
        refine (within_yes _ _ _ _ HQ.out).mono ?_
        rintro e w1 ⟨rfl, rfl⟩
        go_wp2
        go_roundw
        case rel => exact ⟨3, by omega, by go_num, fun _ => P1.out (by omega), fun _ => P2.out (by omega), fun _ => HQ.out, hkp.alloc _⟩
        case measure => simp [intOf]
    · go_wp2
      try rw [Exit.noGoto_ret]
      go_ret
      exact ⟨ret_bool (by rw [P1.out (by omega), P2.out (by omega), P3.out (by omega)]; rfl), K0.out.trans hkp⟩
theorem mayRule_any (r : Ru) (w : World) :
    Calls Tryz.prog 52 #[ruV r] w fun e w' => e = .returned (.bool (mayR r)) ∧ Kept w w' := by
  obtain ⟨k, m, x, d, a⟩ := r
  cases ha : wiB a (-604799) 604799 with
  | false =>
    rw [show mayR ⟨k, m, x, d, a⟩ = false by simp only [wiB, decide_eq_false_iff_not] at ha; simp only [mayR, decide_eq_false_iff_not]; omega]
    exact mayRule_at k m x d a w ha
  | true =>
    have ha' := ha
    simp only [wiB, decide_eq_true_eq] at ha'
    by_cases h0 : k = 0
    · subst h0
      rw [show mayR ⟨0, m, x, d, a⟩ = (decide (m = 0) && decide (x = 0) && wiB d 1 365) by rw [Bool.eq_iff_iff]; simp [mayR, wiB]; omega]
      exact mayRule_jul m x d a w ha
    · by_cases h1 : k = 1
      · subst h1
        rw [show mayR ⟨1, m, x, d, a⟩ = (decide (m = 0) && decide (x = 0) && wiB d 0 365) by rw [Bool.eq_iff_iff]; simp [mayR, wiB]; omega]
        exact mayRule_zer m x d a w ha
      · by_cases h2 : k = 2
        · subst h2
          rw [show mayR ⟨2, m, x, d, a⟩ = (wiB m 1 12 && wiB x 1 5 && wiB d 0 6) by rw [Bool.eq_iff_iff]; simp [mayR, wiB]; omega]
          exact mayRule_nth m x d a w ha
        · rw [show mayR ⟨k, m, x, d, a⟩ = false by simp only [mayR, decide_eq_false_iff_not]; omega]
          exact mayRule_none k m x d a w ha h0 h1 h2
theorem mayZ_no {std : List UInt8} {off : Int} {dst : List UInt8} {ahead : Int} {fr tw : Ru} (h1 : mayN std = true) (h2 : wiB off (-89999) 89999 = true) :
    mayZ ⟨std, off, false, dst, ahead, fr, tw⟩ = zoE ⟨std, off, false, dst, ahead, fr, tw⟩ ⟨std, off, false, [], 0, ru0, ru0⟩ := by
  obtain ⟨fk, fm, fw, fd, fa⟩ := fr
  obtain ⟨tk, tm, tw, td, ta⟩ := tw
  rw [Bool.eq_iff_iff, zoE_iff]
  simp [mayZ, h1, show offB off = true from h2, ru0, and_assoc]
set_option maxRecDepth 100000 in
set_option maxHeartbeats 2000000 in
theorem zMay_any (z : Zo) (w : World) :
    Calls Tryz.prog 21 #[zoV z] w fun e w' => e = .returned (.bool (mayZ z)) ∧ Kept w w' := by
  obtain ⟨std, off, has, dst, ahead, ⟨fk, fm, fw, fd, fa⟩, ⟨tk, tm, tw, td, ta⟩⟩ := z
  cases has with
  | false =>
    have hE : ∀ W, (binOp .eql 25 (.agg #[.string ⟨std.toArray⟩, .int .i64 off, .bool false, .string ⟨dst.toArray⟩, .int .i64 ahead, .int .i64 fk, .int .i64 fm, .int .i64 fw, .int .i64 fd, .int .i64 fa, .int .i64 tk, .int .i64 tm, .int .i64 tw, .int .i64 td, .int .i64 ta]) (.agg #[.string ⟨std.toArray⟩, .int .i64 off, .bool false, .string ⟨#[]⟩, .int .i64 0, .int .i64 0, .int .i64 0, .int .i64 0, .int .i64 0, .int .i64 0, .int .i64 0, .int .i64 0, .int .i64 0, .int .i64 0, .int .i64 0])).run Tryz.prog W = .ok (.bool (zoE ⟨std, off, false, dst, ahead, ⟨fk, fm, fw, fd, fa⟩, ⟨tk, tm, tw, td, ta⟩⟩ ⟨std, off, false, [], 0, ru0, ru0⟩)) W := fun W => eql_zone ⟨std, off, false, dst, ahead, ⟨fk, fm, fw, fd, fa⟩, ⟨tk, tm, tw, td, ta⟩⟩ ⟨std, off, false, [], 0, ru0, ru0⟩ W
    go_enter Tryz.func21, Tryz.ntmps21
    go_wp2_with fail
    refine (mayName_any std _).mono ?_
    rintro e w1 ⟨rfl, rfl⟩
    cases h1 : mayN std with
    | false =>
      go_wp2
      go_ret
      exact ⟨ret_bool (by simp [mayZ, h1]), (Kept.refl _).alloc _⟩
    | true =>
      go_wp2_with fail
      refine (within_any _ _ _ _).mono ?_
      rintro e w1 ⟨rfl, rfl⟩
      cases h2 : wiB off (-89999) 89999 with
      | false =>
        go_wp2
        go_ret
        exact ⟨ret_bool (by simp [mayZ, h1, show offB off = false from h2]), (Kept.refl _).alloc _⟩
      | true =>
        go_wp2
        go_ret
        exact ⟨ret_bool (by rw [show mayZ ⟨std, off, false, dst, ahead, ⟨fk, fm, fw, fd, fa⟩, ⟨tk, tm, tw, td, ta⟩⟩ = _ from mayZ_no h1 h2]), (Kept.refl _).alloc _⟩
  | true =>
    go_enter Tryz.func21, Tryz.ntmps21
    go_wp2_with fail
    refine (mayName_any std _).mono ?_
    rintro e w1 ⟨rfl, rfl⟩
    cases h1 : mayN std with
    | false =>
      go_wp2
      go_ret
      exact ⟨ret_bool (by simp [mayZ, h1]), (Kept.refl _).alloc _⟩
    | true =>
      go_wp2_with fail
      refine (within_any _ _ _ _).mono ?_
      rintro e w1 ⟨rfl, rfl⟩
      cases h2 : wiB off (-89999) 89999 with
      | false =>
        go_wp2
        go_ret
        exact ⟨ret_bool (by simp [mayZ, h1, show offB off = false from h2]), (Kept.refl _).alloc _⟩
      | true =>
        have HZ := Lib.hid (show mayZ ⟨std, off, true, dst, ahead, ⟨fk, fm, fw, fd, fa⟩, ⟨tk, tm, tw, td, ta⟩⟩ = (mayN dst && (decide (ahead = off + 3600) || offB ahead) && mayR ⟨fk, fm, fw, fd, fa⟩ && mayR ⟨tk, tm, tw, td, ta⟩) by simp only [mayZ, h1, show offB off = true from h2, if_true, Bool.true_and])
        have HO := Lib.hid (off_bd (n := off) h2)
        go_wp2_with fail
        refine (mayName_any dst _).mono ?_
        rintro e w1 ⟨rfl, rfl⟩
        cases h3 : mayN dst with
        | false =>
          go_wp2
          go_ret
          exact ⟨ret_bool (by rw [HZ.out, h3]; rfl), (Kept.refl _).alloc _⟩
        | true =>
          go_wp2_with fail
          refine (mayAhead_any ⟨std, off, true, dst, ahead, ⟨fk, fm, fw, fd, fa⟩, ⟨tk, tm, tw, td, ta⟩⟩ _ HO.out.1 HO.out.2).mono ?_
          rintro e w1 ⟨rfl, k1⟩
          cases h4 : (decide (ahead = off + 3600) || offB ahead) with
          | false =>
            have kb := k1.back; clear k1
            go_wp2
            go_ret
            exact ⟨ret_bool (by rw [HZ.out, h3, h4]; rfl), kb⟩
          | true =>
            have c5 := k1.new 5 rfl
            have c6 := k1.new 6 rfl
            have c7 := k1.new 7 rfl
            have c8 := k1.new 8 rfl
            have c9 := k1.new 9 rfl
            go_wp2_with fail
            refine (mayRule_any ⟨fk, fm, fw, fd, fa⟩ _).mono ?_
            rintro e w2 ⟨rfl, k2⟩
            clear c5 c6 c7 c8 c9
            cases h5 : mayR ⟨fk, fm, fw, fd, fa⟩ with
            | false =>
              have kb := (k1.trans k2).back; clear k1 k2
              go_wp2
              go_ret
              exact ⟨ret_bool (by rw [HZ.out, h3, h4, h5]; rfl), kb⟩
            | true =>
              have k12 := k1.trans k2; clear k1 k2
              have c5 := k12.new 10 rfl
              have c6 := k12.new 11 rfl
              have c7 := k12.new 12 rfl
              have c8 := k12.new 13 rfl
              have c9 := k12.new 14 rfl
              have kb := k12.back; clear k12
              go_wp2_with fail
              refine (mayRule_any ⟨tk, tm, tw, td, ta⟩ _).mono ?_
              rintro e w3 ⟨rfl, k3⟩
              clear c5 c6 c7 c8 c9
              go_wp2
              go_ret
              exact ⟨ret_bool (by rw [HZ.out, h3, h4, h5]; rfl), kb.trans k3⟩
/-- block b reads as the zone's cells -/
structure Cs (b : Nat) (z : Zo) (x : World) : Prop where
  c0 : x.cell? ⟨b, 0, none⟩ = some (.string ⟨z.std.toArray⟩)
  c1 : x.cell? ⟨b, 1, none⟩ = some (.int .i64 z.off)
  c2 : x.cell? ⟨b, 2, none⟩ = some (.bool z.has)
  c3 : x.cell? ⟨b, 3, none⟩ = some (.string ⟨z.dst.toArray⟩)
  c4 : x.cell? ⟨b, 4, none⟩ = some (.int .i64 z.ahead)
  c5 : x.cell? ⟨b, 5, none⟩ = some (.int .i64 z.fr.k)
  c6 : x.cell? ⟨b, 6, none⟩ = some (.int .i64 z.fr.m)
  c7 : x.cell? ⟨b, 7, none⟩ = some (.int .i64 z.fr.w)
  c8 : x.cell? ⟨b, 8, none⟩ = some (.int .i64 z.fr.d)
  c9 : x.cell? ⟨b, 9, none⟩ = some (.int .i64 z.fr.a)
  c10 : x.cell? ⟨b, 10, none⟩ = some (.int .i64 z.to.k)
  c11 : x.cell? ⟨b, 11, none⟩ = some (.int .i64 z.to.m)
  c12 : x.cell? ⟨b, 12, none⟩ = some (.int .i64 z.to.w)
  c13 : x.cell? ⟨b, 13, none⟩ = some (.int .i64 z.to.d)
  c14 : x.cell? ⟨b, 14, none⟩ = some (.int .i64 z.to.a)
theorem Cs.kept {b : Nat} {z : Zo} {x x' : World} (h : Cs b z x) (k : Kept x x') (hb : b < x.heap.size) : Cs b z x' := by
  have q : ∀ j, x'.cell? ⟨b, j, none⟩ = x.cell? ⟨b, j, none⟩ := fun j => k.cell (a := ⟨b, j, none⟩) hb
  exact ⟨(q 0).trans h.c0, (q 1).trans h.c1, (q 2).trans h.c2, (q 3).trans h.c3, (q 4).trans h.c4, (q 5).trans h.c5, (q 6).trans h.c6, (q 7).trans h.c7, (q 8).trans h.c8, (q 9).trans h.c9, (q 10).trans h.c10, (q 11).trans h.c11, (q 12).trans h.c12, (q 13).trans h.c13, (q 14).trans h.c14⟩
theorem cell_of {x : World} {n j : Nat} {cs : Array Value} {t : TypeId} {v : Value} (h : x.heap[n]? = some (.cells cs t)) (hv : cs[j]? = some v) : x.cell? ⟨n, j, none⟩ = some v := by
  simp [World.cell?, h, hv]
abbrev zo15 (s : List UInt8) (o : Int) (h : Bool) (d : List UInt8) (a k1 m1 x1 d1 a1 k2 m2 x2 d2 a2 : Int) : Array Value := #[.string ⟨s.toArray⟩, .int .i64 o, .bool h, .string ⟨d.toArray⟩, .int .i64 a, .int .i64 k1, .int .i64 m1, .int .i64 x1, .int .i64 d1, .int .i64 a1, .int .i64 k2, .int .i64 m2, .int .i64 x2, .int .i64 d2, .int .i64 a2]
theorem zo15_one (s : List UInt8) (o : Int) (h : Bool) (d : List UInt8) (a k1 m1 x1 d1 a1 k2 m2 x2 d2 a2 : Int) : ((zo15 s o h d a k1 m1 x1 d1 a1 k2 m2 x2 d2 a2).all fun x => x.oneCell') = true := by simp [Value.oneCell']
theorem Kept.setRow {w x : World} (h : Kept w x) {g : Nat} (hg : w.heap.size ≤ g) (cs : Array Value) : Kept w (x.setRow g cs) :=
  ⟨h.os, h.output, by simpa using h.size, fun k hk => (setRow_other _ _ _ _ (by omega)).trans (h.block k hk), h.tape⟩
theorem new_block (w : World) (o : Obj) : (w.alloc o).heap[w.heap.size]? = some o := by show (w.heap.push o)[w.heap.size]? = _; simp
set_option maxRecDepth 100000 in
set_option maxHeartbeats 1000000 in
theorem some_any (w : World) : Calls Tryz.prog 23 #[] w fun e w' => e = .returned (.agg #[.string ⟨#[67, 69, 84]⟩, .int .i64 3600, .bool true, .string ⟨#[67, 69, 83, 84]⟩, .int .i64 7200, .int .i64 2, .int .i64 3, .int .i64 5, .int .i64 0, .int .i64 7200, .int .i64 2, .int .i64 10, .int .i64 5, .int .i64 0, .int .i64 10800]) ∧ Kept w w' := by
  have hb := Lib.hid (new_block w (.cells (zo15 [] 0 false [] 0 0 0 0 0 0 0 0 0 0 0) 25))
  have kb := Lib.hid ((Kept.refl w).alloc (.cells (zo15 [] 0 false [] 0 0 0 0 0 0 0 0 0 0 0) 25))
  go_enter Tryz.func23, Tryz.ntmps23
  go_upto_region 1 with (fail)
  generalize w.alloc (.cells (zo15 [] 0 false [] 0 0 0 0 0 0 0 0 0 0 0) 25) = x at *
  go_wp2_with (refine wpList_store_row rfl 25 _ _ rfl w.heap.size _ rfl rfl 25 _ hb.out (by kernel_rfl) rfl (zo15_one [67, 69, 84] _ _ [67, 69, 83, 84] _ _ _ _ _ _ _ _ _ _ _) ?_)
  exact bodyPost_ret (v := .agg #[.string ⟨#[67, 69, 84]⟩, .int .i64 3600, .bool true, .string ⟨#[67, 69, 83, 84]⟩, .int .i64 7200, .int .i64 2, .int .i64 3, .int .i64 5, .int .i64 0, .int .i64 7200, .int .i64 2, .int .i64 10, .int .i64 5, .int .i64 0, .int .i64 10800]) (results_cell_row Tryz.results23 _ _ w.heap.size 25 _ (0, 0) _ rfl (setRow_heap _ _ _ _ _ _ hb.out) Tryz.underlying25 rfl (by kernel_rfl)) rfl ⟨rfl, kb.out.setRow (Nat.le_refl _) _⟩
/-- a block that reads as a zone's cells -/
def Bz (b : Nat) (z : Zo) (x : World) : Prop := x.heap[b]? = some (.cells (zo15 z.std z.off z.has z.dst z.ahead z.fr.k z.fr.m z.fr.w z.fr.d z.fr.a z.to.k z.to.m z.to.w z.to.d z.to.a) 25)
theorem Bz.lt {b : Nat} {z : Zo} {x : World} (h : Bz b z x) : b < x.heap.size := (Array.getElem?_eq_some_iff.1 h).1
theorem Bz.kept {b : Nat} {z : Zo} {x x' : World} (h : Bz b z x) (k : Kept x x') : Bz b z x' := (k.block b h.lt).trans h
theorem Bz.cs {b : Nat} {z : Zo} {x : World} (h : Bz b z x) : Cs b z x :=
  ⟨cell_of h rfl, cell_of h rfl, cell_of h rfl, cell_of h rfl, cell_of h rfl, cell_of h rfl, cell_of h rfl, cell_of h rfl, cell_of h rfl, cell_of h rfl, cell_of h rfl, cell_of h rfl, cell_of h rfl, cell_of h rfl, cell_of h rfl⟩
theorem bz_new (w : World) (z : Zo) : Bz w.heap.size z (w.alloc (.cells (zo15 z.std z.off z.has z.dst z.ahead z.fr.k z.fr.m z.fr.w z.fr.d z.fr.a z.to.k z.to.m z.to.w z.to.d z.to.a) 25)) := new_block _ _
end Go.Proofs.YtilgamjahediiaaGreatDoor
