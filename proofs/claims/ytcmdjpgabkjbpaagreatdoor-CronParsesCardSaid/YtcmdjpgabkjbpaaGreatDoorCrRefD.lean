/- Contracts of the document's answer for package cron: a piece. -/
import Derived.Test.YtcmdjpgabkjbpaaGreatDoorCrRefC
set_option linter.unusedVariables false
namespace Go.Proofs.YtcmdjpgabkjbpaaGreatDoor
open Go.ChangeShapes Go.WideShapes Go.ChangeAt Go.RowKit
open Crn
def tailO (a b s : Int) : Option (Int × Int × Int) := if s < 1 ∨ a < 0 ∨ b < 0 ∨ b < a then none else some (a, b, s)
theorem numV_bd (f : Nat) (l : List UInt8) : -1 ≤ numV f l ∧ numV f l ≤ 59 := by
  unfold numV
  cases h : Crn.tok f l with
  | none => simp
  | some n => have := tok_ge h; have := wr_bd f; have := lo_bd f; simp; omega
theorem tail_tok (f : Nat) (u v : List UInt8) (s : Int) : ((Crn.tok f u).bind fun a => (Crn.tok f v).bind fun b => if 1 ≤ s ∧ a ≤ b then some (a, b, s) else none) = tailO (numV f u) (numV f v) s := by
  unfold tailO numV
  cases h1 : Crn.tok f u with
  | none => simp
  | some a =>
    have := tok_ge h1; have := lo_bd f
    cases h2 : Crn.tok f v with
    | none => simp
    | some b =>
      have := tok_ge h2
      simp only [Option.bind_some, Option.getD_some]
      by_cases h : 1 ≤ s ∧ a ≤ b
      · rw [if_pos h, if_neg (by omega)]
      · rw [if_neg h, if_pos (by omega)]
theorem tail_star (f : Nat) (s : Int) : (if 1 ≤ s then some (lo f, hi f, s) else none) = tailO (lo f) (hi f) s := by
  have := lo_bd f; have := hi_bd f
  unfold tailO
  by_cases h : 1 ≤ s
  · rw [if_pos h, if_neg (by omega)]
  · rw [if_neg h, if_pos (by omega)]
theorem rpc_more {f : Nat} {l : List UInt8} (h : 2 < (splt 47 l).length) : rpc f l = none := by unfold rpc; simp only; rw [if_pos h]
theorem rpc_star {f : Nat} {l x : List UInt8} (h : splt 47 l = [x]) (hx : x = [42]) : rpc f l = tailO (lo f) (hi f) 1 := by
  rw [← tail_star]; unfold rpc; rw [h]; subst hx; simp
theorem rpc_star2 {f : Nat} {l x z : List UInt8} (h : splt 47 l = [x, z]) (hx : x = [42]) : rpc f l = tailO (lo f) (hi f) (dgV z) := by
  rw [← tail_star]; unfold rpc; rw [h]; subst hx
  have : (digs z).getD (-1) = dgV z := by unfold dgV; cases digs z <;> rfl
  simp [this]
theorem rpc_q {f : Nat} {l x : List UInt8} (h : splt 47 l = [x]) (hx : x ≠ [42]) (h2 : 2 < (splt 45 x).length) : rpc f l = none := by
  unfold rpc; rw [h]; simp [hx, h2]
theorem rpc_q1 {f : Nat} {l x u : List UInt8} (h : splt 47 l = [x]) (hx : x ≠ [42]) (h2 : splt 45 x = [u]) : rpc f l = tailO (numV f u) (numV f u) 1 := by
  rw [← tail_tok]; unfold rpc; rw [h]; simp [hx, h2]
theorem rpc_q2 {f : Nat} {l x u v : List UInt8} (h : splt 47 l = [x]) (hx : x ≠ [42]) (h2 : splt 45 x = [u, v]) : rpc f l = tailO (numV f u) (numV f v) 1 := by
  rw [← tail_tok]; unfold rpc; rw [h]; simp [hx, h2]
theorem rpc_2q {f : Nat} {l x z : List UInt8} (h : splt 47 l = [x, z]) (hx : x ≠ [42]) (h2 : 2 < (splt 45 x).length ∨ (splt 45 x).length = 1) : rpc f l = none := by
  unfold rpc; rw [h]; simp [hx, h2]
theorem rpc_2q2 {f : Nat} {l x z u v : List UInt8} (h : splt 47 l = [x, z]) (hx : x ≠ [42]) (h2 : splt 45 x = [u, v]) : rpc f l = tailO (numV f u) (numV f v) (dgV z) := by
  have : (digs z).getD (-1) = dgV z := by unfold dgV; cases digs z <;> rfl
  rw [← tail_tok]; unfold rpc; rw [h]; simp [hx, h2, this]
def PieceR (o : Option (Int × Int × Int)) (w : World) (e : Ending) (w' : World) : Prop :=
  match o with
  | none => e = .returned (.slice none 0 0) ∧ Kept w w'
  | some p => ∃ v, e = .returned v ∧ Out w.heap.size v (sq p.1 p.2.1 p.2.2) w' ∧ Kept w w'
def PIn (a b s : Int) (W : World) (p q : Value) (x : World) : Prop :=
  ∃ (m : Int) (dn : List Int), q = .int .i64 m ∧ a ≤ m ∧ m ≤ 200 ∧ dn.length + (sq m b s).length ≤ 60 ∧ sq a b s = dn ++ sq m b s ∧ OutIn W.heap.size W dn p x
theorem splt_cases (c : UInt8) (l : List UInt8) : 2 < (splt c l).length ∨ (∃ x, splt c l = [x]) ∨ ∃ x z, splt c l = [x, z] := by
  rcases h : splt c l with _ | ⟨x, _ | ⟨z, _ | ⟨y, r⟩⟩⟩
  · exact absurd h (splt_ne c l)
  · exact Or.inr (Or.inl ⟨x, rfl⟩)
  · exact Or.inr (Or.inr ⟨x, z, rfl⟩)
  · exact Or.inl (by simp)
set_option maxRecDepth 100000 in
set_option maxHeartbeats 2000000 in
theorem rpiece_more (f : Nat) (hf : f < 5) (l : List UInt8) (w : World) (hl : l.length ≤ 500) (h : 2 < (splt 47 l).length) : Calls Tryz.prog 31 #[.int .i64 f, .string ⟨l.toArray⟩] w (PieceR (rpc f l) w) := by
  obtain ⟨i0, hi, hz0, hz1, hz2⟩ := info_parts (show (Tryz.prog.info? 3).map (fun i => (i.zero, i.size, i.bytes)) = some (some (.int .i64 0), 1, 8) by kernel_rfl)
  have hlo := lo_bd f; have hhi := hi_bd f
  go_enter Tryz.func31, Tryz.ntmps31
  go_wp2_with fail
  refine (rsplit_any 47 l _ (by omega)).mono ?_
  rintro e x1 ⟨v1, rfl, o1, k1⟩
  have HR := Lib.hid (rpc_more (f := f) h)
  have hlen := splt_len 47 l
  obtain ⟨ao, cap, rfl⟩ := o1.slice
  generalize splt 47 l = ps at *
  go_wp2
  go_ret
  rw [HR.out]
  exact ⟨rfl, k1⟩
set_option maxRecDepth 100000 in
set_option maxHeartbeats 2000000 in
theorem rpiece_one (f : Nat) (hf : f < 5) (l : List UInt8) (w : World) (hl : l.length ≤ 500) (x : List UInt8) (h : splt 47 l = [x]) : Calls Tryz.prog 31 #[.int .i64 f, .string ⟨l.toArray⟩] w (PieceR (rpc f l) w) := by
  obtain ⟨i0, hi, hz0, hz1, hz2⟩ := info_parts (show (Tryz.prog.info? 3).map (fun i => (i.zero, i.size, i.bytes)) = some (some (.int .i64 0), 1, 8) by kernel_rfl)
  have hlo := lo_bd f; have hhi := hi_bd f
  go_enter Tryz.func31, Tryz.ntmps31
  go_wp2_with fail
  refine (rsplit_any 47 l _ (by omega)).mono ?_
  rintro e x1 ⟨v1, rfl, o1, k1⟩
  have HS := Lib.hid h
  have hm := splt_mem (c := 47) l x (by rw [h]; simp)
  rw [h] at o1
  obtain ⟨g, cap, rfl, hcell⟩ := o1.at (k := 0) (by simp)
  have c0 := hcell 0 x rfl
  clear h hcell
  have K1 := Lib.hid k1; have O1 := Lib.hid o1
  clear k1 o1
  go_wp2_with fail
  refine (low_any f hf _).mono ?_
  rintro e x2 ⟨rfl, rfl⟩
  go_wp2_with fail
  refine (high_any f hf _).mono ?_
  rintro e x3 ⟨rfl, rfl⟩
  by_cases hx : x = [42]
  · have HR := Lib.hid (show rpc f l = tailO (lo f) (Crn.hi f) 1 by rw [rpc_star HS.out hx])
    have hxc := hx
    subst hxc
    generalize lo f = A at *
    generalize Crn.hi f = B at *
    by_cases t1 : (1 : Int) < 1
    · have HP := Lib.hid (show rpc f l = none by rw [HR.out, tailO, if_pos (by omega)])
      go_wp2
      all_goals (go_ret; rw [HP.out]; exact ⟨rfl, K1.out⟩)
    by_cases t2 : A < 0
    · have HP := Lib.hid (show rpc f l = none by rw [HR.out, tailO, if_pos (by omega)])
      go_wp2
      all_goals (go_ret; rw [HP.out]; exact ⟨rfl, K1.out⟩)
    by_cases t3 : B < 0
    · have HP := Lib.hid (show rpc f l = none by rw [HR.out, tailO, if_pos (by omega)])
      go_wp2
      all_goals (go_ret; rw [HP.out]; exact ⟨rfl, K1.out⟩)
    by_cases t4 : B < A
    · have HP := Lib.hid (show rpc f l = none by rw [HR.out, tailO, if_pos (by omega)])
      go_wp2
      all_goals (go_ret; rw [HP.out]; exact ⟨rfl, K1.out⟩)
    have HP := Lib.hid (show rpc f l = some (A, B, (1 : Int)) by rw [HR.out, tailO, if_neg (by omega)])
    have hs1 : 1 ≤ (1 : Int) := by omega
    have hsl := sq_len (b := B) hs1 60 A (by omega)
    have KY := Lib.hid K1.out
    go_wp2_with fail
    go_loopw [10, 11] (fun p q y => PIn A B (1 : Int) w p q y) (fun _ q _ => (B + 1 - intOf q).toNat)
    case atStart => exact ⟨A, [], rfl, Int.le_refl _, by omega, by simpa using hsl, rfl, none, 0, rfl, Out.nil _ _, KY.out⟩
    case round =>
      obtain ⟨m, dn, rfl, m1, m2, m3, m4, ao3, cap3, rfl, own3, kp3⟩ := hrel
      have Own3 := Lib.hid own3; have KP3 := Lib.hid kp3
      clear own3 kp3
      by_cases hmb : m ≤ B
      · have hst := sq_step hs1 hmb
        have hq4 := Lib.hid (show sq A B (1 : Int) = (dn ++ [m]) ++ sq (m + (1 : Int)) B (1 : Int) by rw [m4, hst]; simp)
        have hq3 : (dn ++ [m]).length + (sq (m + (1 : Int)) B (1 : Int)).length ≤ 60 := by rw [hst] at m3; simp at m3 ⊢; omega
        have hdn : dn.length ≤ 60 := by omega
        clear m4 hst
        go_wp2_with (at_builtin; refine wpList_append_own _ rfl _ _ 23 rfl w.heap.size 3 i0 (.int .i64 0) 1 8 Tryz.underlying23 hi hz0 hz1 hz2 rfl (by decide) _ _ _ rfl (Own3.out.alloc _) ⟨wr.heap.size, 0, none⟩ 1 1 [.int .i64 m] rfl rfl (cell_one_new _ _ _) (fun x hx => by simp at hx; subst hx; rfl) (by unfold maxLen; omega) (by omega) (by have := KP3.out.size; simp; omega) ?_; intro v' w7 hown' hgrow hnil)
        have HA := outIn_app (Nat.le_refl _) Own3.out KP3.out hgrow hown'
        go_roundw
        case rel => exact ⟨m + (1 : Int), dn ++ [m], by go_num, by omega, by omega, hq3, hq4.out, HA⟩
        case measure => simp [intOf]; omega
      · have hdn : dn = sq A B (1 : Int) := by rw [m4, sq_end (by omega)]; simp
        subst hdn
        clear m3 m4
        go_wp2
        go_ret
        rw [HP.out]
        exact ⟨_, rfl, Own3.out, KP3.out⟩
  · have hxb : ¬ (⟨x.toArray⟩ : ByteArray) = ⟨#[42]⟩ := fun e => hx (by injection e with e; injection e)
    have hxB : (x == [42]) = false := beq_eq_false_iff_ne.2 hx
    have HX := Lib.hid hx; clear hx
    go_wp2_with fail
    refine (rsplit_any 45 x _ (by omega)).mono ?_
    rintro e x4 ⟨v4, rfl, o4, k4⟩
    have K4 := Lib.hid (K1.out.trans k4); clear k4
    rcases splt_cases 45 x with hq | ⟨u, hq⟩ | ⟨u, v, hq⟩
    · have HR := Lib.hid (rpc_q (f := f) HS.out HX.out hq)
      have hlen := splt_len 45 x
      obtain ⟨ao, cap4, rfl⟩ := o4.slice
      generalize splt 45 x = qs at *
      go_wp2
      go_ret
      rw [HR.out]
      exact ⟨rfl, K4.out⟩
    · have HQ := Lib.hid hq
      have mu := splt_mem (c := 45) x u (by rw [hq]; simp)
      rw [hq] at o4
      obtain ⟨g4, cap4, rfl, hcell4⟩ := o4.at (k := 0) (by simp)
      have qu := hcell4 0 u rfl
      clear hq hcell4
      go_wp2_with fail
      refine (rnumber_any f hf u _ (by omega)).mono ?_
      rintro e x5 ⟨rfl, k5⟩
      have qu' := (k5.cell (a := ⟨g4, 0, none⟩) (lt_cell qu)).trans qu
      have K5 := Lib.hid (K4.out.trans k5); clear k5
      go_wp2_with fail
      refine (rnumber_any f hf u _ (by omega)).mono ?_
      rintro e x6 ⟨rfl, k6⟩
      have K6 := Lib.hid (K5.out.trans k6); clear k6
      have bu := numV_bd f u
      have HR := Lib.hid (show rpc f l = tailO (numV f u) (numV f u) 1 from rpc_q1 HS.out HX.out HQ.out)
      generalize numV f u = A at *
      by_cases t1 : (1 : Int) < 1
      · have HP := Lib.hid (show rpc f l = none by rw [HR.out, tailO, if_pos (by omega)])
        go_wp2
        all_goals (go_ret; rw [HP.out]; exact ⟨rfl, K6.out⟩)
      by_cases t2 : A < 0
      · have HP := Lib.hid (show rpc f l = none by rw [HR.out, tailO, if_pos (by omega)])
        go_wp2
        all_goals (go_ret; rw [HP.out]; exact ⟨rfl, K6.out⟩)
      by_cases t3 : A < 0
      · have HP := Lib.hid (show rpc f l = none by rw [HR.out, tailO, if_pos (by omega)])
        go_wp2
        all_goals (go_ret; rw [HP.out]; exact ⟨rfl, K6.out⟩)
      by_cases t4 : A < A
      · have HP := Lib.hid (show rpc f l = none by rw [HR.out, tailO, if_pos (by omega)])
        go_wp2
        all_goals (go_ret; rw [HP.out]; exact ⟨rfl, K6.out⟩)
      have HP := Lib.hid (show rpc f l = some (A, A, (1 : Int)) by rw [HR.out, tailO, if_neg (by omega)])
      have hs1 : 1 ≤ (1 : Int) := by omega
      have hsl := sq_len (b := A) hs1 60 A (by omega)
      have KY := Lib.hid K6.out
      go_wp2_with fail
      go_loopw [10, 11] (fun p q y => PIn A A (1 : Int) w p q y) (fun _ q _ => (A + 1 - intOf q).toNat)
      case atStart => exact ⟨A, [], rfl, Int.le_refl _, by omega, by simpa using hsl, rfl, none, 0, rfl, Out.nil _ _, KY.out⟩
      case round =>
        obtain ⟨m, dn, rfl, m1, m2, m3, m4, ao3, cap3, rfl, own3, kp3⟩ := hrel
        have Own3 := Lib.hid own3; have KP3 := Lib.hid kp3
        clear own3 kp3
        by_cases hmb : m ≤ A
        · have hst := sq_step hs1 hmb
          have hq4 := Lib.hid (show sq A A (1 : Int) = (dn ++ [m]) ++ sq (m + (1 : Int)) A (1 : Int) by rw [m4, hst]; simp)
          have hq3 : (dn ++ [m]).length + (sq (m + (1 : Int)) A (1 : Int)).length ≤ 60 := by rw [hst] at m3; simp at m3 ⊢; omega
          have hdn : dn.length ≤ 60 := by omega
          clear m4 hst
          go_wp2_with (at_builtin; refine wpList_append_own _ rfl _ _ 23 rfl w.heap.size 3 i0 (.int .i64 0) 1 8 Tryz.underlying23 hi hz0 hz1 hz2 rfl (by decide) _ _ _ rfl (Own3.out.alloc _) ⟨wr.heap.size, 0, none⟩ 1 1 [.int .i64 m] rfl rfl (cell_one_new _ _ _) (fun x hx => by simp at hx; subst hx; rfl) (by unfold maxLen; omega) (by omega) (by have := KP3.out.size; simp; omega) ?_; intro v' w7 hown' hgrow hnil)
          have HA := outIn_app (Nat.le_refl _) Own3.out KP3.out hgrow hown'
          go_roundw
          case rel => exact ⟨m + (1 : Int), dn ++ [m], by go_num, by omega, by omega, hq3, hq4.out, HA⟩
          case measure => simp [intOf]; omega
        · have hdn : dn = sq A A (1 : Int) := by rw [m4, sq_end (by omega)]; simp
          subst hdn
          clear m3 m4
          go_wp2
          go_ret
          rw [HP.out]
          exact ⟨_, rfl, Own3.out, KP3.out⟩
    · have HQ := Lib.hid hq
      have mu := splt_mem (c := 45) x u (by rw [hq]; simp)
      have mv := splt_mem (c := 45) x v (by rw [hq]; simp)
      rw [hq] at o4
      obtain ⟨g4, cap4, rfl, hcell4⟩ := o4.at (k := 0) (by simp)
      have qu := hcell4 0 u rfl
      have qv := hcell4 1 v rfl
      clear hq hcell4
      go_wp2_with fail
      refine (rnumber_any f hf u _ (by omega)).mono ?_
      rintro e x5 ⟨rfl, k5⟩
      have qv' := (k5.cell (a := ⟨g4, 1, none⟩) (lt_cell qv)).trans qv
      have K5 := Lib.hid (K4.out.trans k5); clear k5
      go_wp2_with fail
      refine (rnumber_any f hf v _ (by omega)).mono ?_
      rintro e x6 ⟨rfl, k6⟩
      have K6 := Lib.hid (K5.out.trans k6); clear k6
      have bu := numV_bd f u
      have bv := numV_bd f v
      have HR := Lib.hid (show rpc f l = tailO (numV f u) (numV f v) 1 by rw [rpc_q2 HS.out HX.out HQ.out])
      generalize numV f u = A at *
      generalize numV f v = B at *
      by_cases t1 : (1 : Int) < 1
      · have HP := Lib.hid (show rpc f l = none by rw [HR.out, tailO, if_pos (by omega)])
        go_wp2
        all_goals (go_ret; rw [HP.out]; exact ⟨rfl, K6.out⟩)
      by_cases t2 : A < 0
      · have HP := Lib.hid (show rpc f l = none by rw [HR.out, tailO, if_pos (by omega)])
        go_wp2
        all_goals (go_ret; rw [HP.out]; exact ⟨rfl, K6.out⟩)
      by_cases t3 : B < 0
      · have HP := Lib.hid (show rpc f l = none by rw [HR.out, tailO, if_pos (by omega)])
        go_wp2
        all_goals (go_ret; rw [HP.out]; exact ⟨rfl, K6.out⟩)
      by_cases t4 : B < A
      · have HP := Lib.hid (show rpc f l = none by rw [HR.out, tailO, if_pos (by omega)])
        go_wp2
        all_goals (go_ret; rw [HP.out]; exact ⟨rfl, K6.out⟩)
      have HP := Lib.hid (show rpc f l = some (A, B, (1 : Int)) by rw [HR.out, tailO, if_neg (by omega)])
      have hs1 : 1 ≤ (1 : Int) := by omega
      have hsl := sq_len (b := B) hs1 60 A (by omega)
      have KY := Lib.hid K6.out
      go_wp2_with fail
      go_loopw [10, 11] (fun p q y => PIn A B (1 : Int) w p q y) (fun _ q _ => (B + 1 - intOf q).toNat)
      case atStart => exact ⟨A, [], rfl, Int.le_refl _, by omega, by simpa using hsl, rfl, none, 0, rfl, Out.nil _ _, KY.out⟩
      case round =>
        obtain ⟨m, dn, rfl, m1, m2, m3, m4, ao3, cap3, rfl, own3, kp3⟩ := hrel
        have Own3 := Lib.hid own3; have KP3 := Lib.hid kp3
        clear own3 kp3
        by_cases hmb : m ≤ B
        · have hst := sq_step hs1 hmb
          have hq4 := Lib.hid (show sq A B (1 : Int) = (dn ++ [m]) ++ sq (m + (1 : Int)) B (1 : Int) by rw [m4, hst]; simp)
          have hq3 : (dn ++ [m]).length + (sq (m + (1 : Int)) B (1 : Int)).length ≤ 60 := by rw [hst] at m3; simp at m3 ⊢; omega
          have hdn : dn.length ≤ 60 := by omega
          clear m4 hst
          go_wp2_with (at_builtin; refine wpList_append_own _ rfl _ _ 23 rfl w.heap.size 3 i0 (.int .i64 0) 1 8 Tryz.underlying23 hi hz0 hz1 hz2 rfl (by decide) _ _ _ rfl (Own3.out.alloc _) ⟨wr.heap.size, 0, none⟩ 1 1 [.int .i64 m] rfl rfl (cell_one_new _ _ _) (fun x hx => by simp at hx; subst hx; rfl) (by unfold maxLen; omega) (by omega) (by have := KP3.out.size; simp; omega) ?_; intro v' w7 hown' hgrow hnil)
          have HA := outIn_app (Nat.le_refl _) Own3.out KP3.out hgrow hown'
          go_roundw
          case rel => exact ⟨m + (1 : Int), dn ++ [m], by go_num, by omega, by omega, hq3, hq4.out, HA⟩
          case measure => simp [intOf]; omega
        · have hdn : dn = sq A B (1 : Int) := by rw [m4, sq_end (by omega)]; simp
          subst hdn
          clear m3 m4
          go_wp2
          go_ret
          rw [HP.out]
          exact ⟨_, rfl, Own3.out, KP3.out⟩
set_option maxRecDepth 100000 in
set_option maxHeartbeats 2000000 in
theorem rpiece_two (f : Nat) (hf : f < 5) (l : List UInt8) (w : World) (hl : l.length ≤ 500) (x z : List UInt8) (h : splt 47 l = [x, z]) : Calls Tryz.prog 31 #[.int .i64 f, .string ⟨l.toArray⟩] w (PieceR (rpc f l) w) := by
  obtain ⟨i0, hi, hz0, hz1, hz2⟩ := info_parts (show (Tryz.prog.info? 3).map (fun i => (i.zero, i.size, i.bytes)) = some (some (.int .i64 0), 1, 8) by kernel_rfl)
  have hlo := lo_bd f; have hhi := hi_bd f
  go_enter Tryz.func31, Tryz.ntmps31
  go_wp2_with fail
  refine (rsplit_any 47 l _ (by omega)).mono ?_
  rintro e x1 ⟨v1, rfl, o1, k1⟩
  have HS := Lib.hid h
  have hm := splt_mem (c := 47) l x (by rw [h]; simp)
  have hmz := splt_mem (c := 47) l z (by rw [h]; simp)
  rw [h] at o1
  obtain ⟨g, cap, rfl, hcell⟩ := o1.at (k := 0) (by simp)
  have c0 := hcell 0 x rfl
  have c1 := hcell 1 z rfl
  clear h hcell
  have K1 := Lib.hid k1; have O1 := Lib.hid o1
  clear k1 o1
  have hzb := dgV_ge z
  go_wp2_with fail
  refine (rdigits_any z _ (by omega)).mono ?_
  rintro e x2 ⟨rfl, rfl⟩
  generalize hd : dgV z = s at *
  have HDz := Lib.hid hd; clear hd
  go_wp2_with fail
  refine (low_any f hf _).mono ?_
  rintro e x2 ⟨rfl, rfl⟩
  go_wp2_with fail
  refine (high_any f hf _).mono ?_
  rintro e x3 ⟨rfl, rfl⟩
  by_cases hx : x = [42]
  · have HR := Lib.hid (show rpc f l = tailO (lo f) (Crn.hi f) s by rw [rpc_star2 HS.out hx]; rw [HDz.out])
    have hxc := hx
    subst hxc
    generalize lo f = A at *
    generalize Crn.hi f = B at *
    by_cases t1 : s < 1
    · have HP := Lib.hid (show rpc f l = none by rw [HR.out, tailO, if_pos (by omega)])
      go_wp2
      all_goals (go_ret; rw [HP.out]; exact ⟨rfl, K1.out⟩)
    by_cases t2 : A < 0
    · have HP := Lib.hid (show rpc f l = none by rw [HR.out, tailO, if_pos (by omega)])
      go_wp2
      all_goals (go_ret; rw [HP.out]; exact ⟨rfl, K1.out⟩)
    by_cases t3 : B < 0
    · have HP := Lib.hid (show rpc f l = none by rw [HR.out, tailO, if_pos (by omega)])
      go_wp2
      all_goals (go_ret; rw [HP.out]; exact ⟨rfl, K1.out⟩)
    by_cases t4 : B < A
    · have HP := Lib.hid (show rpc f l = none by rw [HR.out, tailO, if_pos (by omega)])
      go_wp2
      all_goals (go_ret; rw [HP.out]; exact ⟨rfl, K1.out⟩)
    have HP := Lib.hid (show rpc f l = some (A, B, s) by rw [HR.out, tailO, if_neg (by omega)])
    have hs1 : 1 ≤ s := by omega
    have hsl := sq_len (b := B) hs1 60 A (by omega)
    have KY := Lib.hid K1.out
    go_wp2_with fail
    go_loopw [10, 11] (fun p q y => PIn A B s w p q y) (fun _ q _ => (B + 1 - intOf q).toNat)
    case atStart => exact ⟨A, [], rfl, Int.le_refl _, by omega, by simpa using hsl, rfl, none, 0, rfl, Out.nil _ _, KY.out⟩
    case round =>
      obtain ⟨m, dn, rfl, m1, m2, m3, m4, ao3, cap3, rfl, own3, kp3⟩ := hrel
      have Own3 := Lib.hid own3; have KP3 := Lib.hid kp3
      clear own3 kp3
      by_cases hmb : m ≤ B
      · have hst := sq_step hs1 hmb
        have hq4 := Lib.hid (show sq A B s = (dn ++ [m]) ++ sq (m + s) B s by rw [m4, hst]; simp)
        have hq3 : (dn ++ [m]).length + (sq (m + s) B s).length ≤ 60 := by rw [hst] at m3; simp at m3 ⊢; omega
        have hdn : dn.length ≤ 60 := by omega
        clear m4 hst
        go_wp2_with (at_builtin; refine wpList_append_own _ rfl _ _ 23 rfl w.heap.size 3 i0 (.int .i64 0) 1 8 Tryz.underlying23 hi hz0 hz1 hz2 rfl (by decide) _ _ _ rfl (Own3.out.alloc _) ⟨wr.heap.size, 0, none⟩ 1 1 [.int .i64 m] rfl rfl (cell_one_new _ _ _) (fun x hx => by simp at hx; subst hx; rfl) (by unfold maxLen; omega) (by omega) (by have := KP3.out.size; simp; omega) ?_; intro v' w7 hown' hgrow hnil)
        have HA := outIn_app (Nat.le_refl _) Own3.out KP3.out hgrow hown'
        go_roundw
        case rel => exact ⟨m + s, dn ++ [m], by go_num, by omega, by omega, hq3, hq4.out, HA⟩
        case measure => simp [intOf]; omega
      · have hdn : dn = sq A B s := by rw [m4, sq_end (by omega)]; simp
        subst hdn
        clear m3 m4
        go_wp2
        go_ret
        rw [HP.out]
        exact ⟨_, rfl, Own3.out, KP3.out⟩
  · have hxb : ¬ (⟨x.toArray⟩ : ByteArray) = ⟨#[42]⟩ := fun e => hx (by injection e with e; injection e)
    have hxB : (x == [42]) = false := beq_eq_false_iff_ne.2 hx
    have HX := Lib.hid hx; clear hx
    go_wp2_with fail
    refine (rsplit_any 45 x _ (by omega)).mono ?_
    rintro e x4 ⟨v4, rfl, o4, k4⟩
    have K4 := Lib.hid (K1.out.trans k4); clear k4
    rcases splt_cases 45 x with hq | ⟨u, hq⟩ | ⟨u, v, hq⟩
    · have HR := Lib.hid (rpc_2q (f := f) HS.out HX.out (Or.inl hq))
      have hlen := splt_len 45 x
      obtain ⟨ao, cap4, rfl⟩ := o4.slice
      generalize splt 45 x = qs at *
      go_wp2
      go_ret
      rw [HR.out]
      exact ⟨rfl, K4.out⟩
    · have HR := Lib.hid (rpc_2q (f := f) HS.out HX.out (Or.inr (by rw [hq]; rfl)))
      have hlen := splt_len 45 x
      have hl1 : (splt 45 x).length = 1 := by rw [hq]; rfl
      clear hq
      obtain ⟨ao, cap4, rfl⟩ := o4.slice
      generalize splt 45 x = qs at *
      go_wp2
      go_ret
      rw [HR.out]
      exact ⟨rfl, K4.out⟩
    · have HQ := Lib.hid hq
      have mu := splt_mem (c := 45) x u (by rw [hq]; simp)
      have mv := splt_mem (c := 45) x v (by rw [hq]; simp)
      rw [hq] at o4
      obtain ⟨g4, cap4, rfl, hcell4⟩ := o4.at (k := 0) (by simp)
      have qu := hcell4 0 u rfl
      have qv := hcell4 1 v rfl
      clear hq hcell4
      go_wp2_with fail
      refine (rnumber_any f hf u _ (by omega)).mono ?_
      rintro e x5 ⟨rfl, k5⟩
      have qv' := (k5.cell (a := ⟨g4, 1, none⟩) (lt_cell qv)).trans qv
      have K5 := Lib.hid (K4.out.trans k5); clear k5
      go_wp2_with fail
      refine (rnumber_any f hf v _ (by omega)).mono ?_
      rintro e x6 ⟨rfl, k6⟩
      have K6 := Lib.hid (K5.out.trans k6); clear k6
      have bu := numV_bd f u
      have bv := numV_bd f v
      have HR := Lib.hid (show rpc f l = tailO (numV f u) (numV f v) s by rw [rpc_2q2 HS.out HX.out HQ.out]; rw [HDz.out])
      generalize numV f u = A at *
      generalize numV f v = B at *
      by_cases t1 : s < 1
      · have HP := Lib.hid (show rpc f l = none by rw [HR.out, tailO, if_pos (by omega)])
        go_wp2
        all_goals (go_ret; rw [HP.out]; exact ⟨rfl, K6.out⟩)
      by_cases t2 : A < 0
      · have HP := Lib.hid (show rpc f l = none by rw [HR.out, tailO, if_pos (by omega)])
        go_wp2
        all_goals (go_ret; rw [HP.out]; exact ⟨rfl, K6.out⟩)
      by_cases t3 : B < 0
      · have HP := Lib.hid (show rpc f l = none by rw [HR.out, tailO, if_pos (by omega)])
        go_wp2
        all_goals (go_ret; rw [HP.out]; exact ⟨rfl, K6.out⟩)
      by_cases t4 : B < A
      · have HP := Lib.hid (show rpc f l = none by rw [HR.out, tailO, if_pos (by omega)])
        go_wp2
        all_goals (go_ret; rw [HP.out]; exact ⟨rfl, K6.out⟩)
      have HP := Lib.hid (show rpc f l = some (A, B, s) by rw [HR.out, tailO, if_neg (by omega)])
      have hs1 : 1 ≤ s := by omega
      have hsl := sq_len (b := B) hs1 60 A (by omega)
      have KY := Lib.hid K6.out
      go_wp2_with fail
      go_loopw [10, 11] (fun p q y => PIn A B s w p q y) (fun _ q _ => (B + 1 - intOf q).toNat)
      case atStart => exact ⟨A, [], rfl, Int.le_refl _, by omega, by simpa using hsl, rfl, none, 0, rfl, Out.nil _ _, KY.out⟩
      case round =>
        obtain ⟨m, dn, rfl, m1, m2, m3, m4, ao3, cap3, rfl, own3, kp3⟩ := hrel
        have Own3 := Lib.hid own3; have KP3 := Lib.hid kp3
        clear own3 kp3
        by_cases hmb : m ≤ B
        · have hst := sq_step hs1 hmb
          have hq4 := Lib.hid (show sq A B s = (dn ++ [m]) ++ sq (m + s) B s by rw [m4, hst]; simp)
          have hq3 : (dn ++ [m]).length + (sq (m + s) B s).length ≤ 60 := by rw [hst] at m3; simp at m3 ⊢; omega
          have hdn : dn.length ≤ 60 := by omega
          clear m4 hst
          go_wp2_with (at_builtin; refine wpList_append_own _ rfl _ _ 23 rfl w.heap.size 3 i0 (.int .i64 0) 1 8 Tryz.underlying23 hi hz0 hz1 hz2 rfl (by decide) _ _ _ rfl (Own3.out.alloc _) ⟨wr.heap.size, 0, none⟩ 1 1 [.int .i64 m] rfl rfl (cell_one_new _ _ _) (fun x hx => by simp at hx; subst hx; rfl) (by unfold maxLen; omega) (by omega) (by have := KP3.out.size; simp; omega) ?_; intro v' w7 hown' hgrow hnil)
          have HA := outIn_app (Nat.le_refl _) Own3.out KP3.out hgrow hown'
          go_roundw
          case rel => exact ⟨m + s, dn ++ [m], by go_num, by omega, by omega, hq3, hq4.out, HA⟩
          case measure => simp [intOf]; omega
        · have hdn : dn = sq A B s := by rw [m4, sq_end (by omega)]; simp
          subst hdn
          clear m3 m4
          go_wp2
          go_ret
          rw [HP.out]
          exact ⟨_, rfl, Own3.out, KP3.out⟩
theorem rpiece_any (f : Nat) (hf : f < 5) (l : List UInt8) (w : World) (hl : l.length ≤ 500) : Calls Tryz.prog 31 #[.int .i64 f, .string ⟨l.toArray⟩] w (PieceR (pc f l) w) := by
  rw [← pc_eq]
  rcases splt_cases 47 l with h | ⟨x, h⟩ | ⟨x, z, h⟩
  · exact rpiece_more f hf l w hl h
  · exact rpiece_one f hf l w hl x h
  · exact rpiece_two f hf l w hl x z h
end Go.Proofs.YtcmdjpgabkjbpaaGreatDoor
