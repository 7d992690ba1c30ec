/- Contracts of package cron: the reader's pieces. -/
import Derived.Test.YtcmdjpgabkjbpaaGreatDoorCrNum
import Derived.Deep.RegionHeld3
set_option linter.unusedVariables false
namespace Go.Proofs.YtcmdjpgabkjbpaaGreatDoor
open Go.ChangeShapes Go.WideShapes Go.ChangeAt Go.RowKit
open Crn
theorem Only.undrew {bk : Nat} {w w' : World} (h : Only bk w.drew w') : Only bk w w' := ⟨h.os, h.output, h.tape, h.size, h.block, h.frozen⟩
abbrev tri (p : Int × Int × Int) : Value := .tuple #[.int .i64 p.1, .int .i64 p.2.1, .int .i64 p.2.2]
set_option maxRecDepth 100000 in
set_option maxHeartbeats 1000000 in
theorem piece_any (f : Nat) (l : List UInt8) (bk n : Nat) (w : World) (hn : n ≤ bk) (ht : Tb n w) (hc : w.cell? ⟨bk, 0, none⟩ = some (.string ⟨l.toArray⟩)) (hf : w.frozen? ⟨bk, 0, none⟩ = false) :
    Calls Tryz.prog 64 #[.pointer (some ⟨bk, 0, none⟩), fld f] w (RdPost ((rPiece f l).map fun p => (tri p.1, p.2)) bk w) := by
  have hb := lt_cell hc
  have k0 := (Kept.refl w).alloc (fldO f)
  have F0 := Fl.new f w
  have c0 := (k0.cell (a := ⟨bk, 0, none⟩) hb).trans hc
  have f0 := (k0.frozen (a := ⟨bk, 0, none⟩) hb).trans hf
  have t0 := ht.kept k0
  have o0 := Only.kept k0 hb
  have hne : w.heap.size ≠ bk := by omega
  by_cases hs : l.head? = some 42
  · obtain ⟨r, rfl⟩ : ∃ r, l = 42 :: r := by
      cases l with
      | nil => cases hs
      | cons a r => injection hs with hs; subst hs; exact ⟨r, rfl⟩
    have HR := Lib.hid (show rPiece f (42 :: r) = (rStep r).map fun s => ((lo f, hi f, s.1), s.2) by rw [rPiece, if_pos hs]; rfl)
    clear hs
    go_enter Tryz.func64, Tryz.ntmps64
    go_upto_region 1 with (fail)
    generalize w.alloc (fldO f) = x at *
    go_wp2_with fail
    refine (skip_yes 42 r bk _ c0 f0).mono ?_
    rintro e x1 ⟨rfl, o1, c1⟩
    have f1 := o1.frozen.trans f0
    have F1 := F0.only o1 hne
    obtain ⟨e0, e1⟩ := (⟨F1.c0, F1.c1⟩ : _ ∧ _)
    have o01 := o0.trans o1
    go_upto_region 2 with (fail)
    refine wp_region_held_drew (S := fun y => Only bk x1 y ∧ y.cell? ⟨w.heap.size, 0, none⟩ = some (.int .i64 (lo f)) ∧ y.cell? ⟨w.heap.size, 1, none⟩ = some (.int .i64 (hi f))) (by kernel_rfl) ⟨(Only.refl bk x1.drew).undrew, e0, e1⟩ (fun hS0 => ?_)
    refine wpAnyH_take (i := 0) (oi := { dst := some 9, op := Go.Op.fieldAddr 57 (Go.Operand.tmp 3) 0, type := 0, pos := "reader.go:57", after := #[], guard := none }) (v := ?va0) rfl (by kernel_rfl) (by kernel_rfl) (by kernel_rfl) (fun _ _ _ h => h) (Or.inl ⟨by rfl, ?ya0⟩) (by assumption) ?ra0
    case ya0 => (intro wq hSw; (try dsimp only at hSw); go_simp; try with_reducible rfl)
    simp only [Act.put, List.setIfInBounds_toArray, List.set_cons_zero, List.set_cons_succ]
    refine wpAnyH_take (i := 1) (oi := { dst := some 10, op := Go.Op.load 3 (Go.Operand.tmp 9), type := 3, pos := "reader.go:57", after := #[{ on := 0, ground := Go.Ground.data }], guard := none }) (v := ?va1) rfl (by kernel_rfl) (by kernel_rfl) (by kernel_rfl) (fun _ _ _ h => h) (Or.inl ⟨by rfl, ?ya1⟩) (by assumption) ?ra1
    case ya1 => (intro wq hSw; (try dsimp only at hSw); go_simp; try with_reducible rfl)
    simp only [Act.put, List.setIfInBounds_toArray, List.set_cons_zero, List.set_cons_succ]
    refine wpAnyH_take (i := 2) (oi := { dst := some 11, op := Go.Op.fieldAddr 57 (Go.Operand.tmp 3) 1, type := 0, pos := "reader.go:57", after := #[{ on := 6, ground := Go.Ground.gcOnly Go.Departure.lateStores }], guard := none }) (v := ?va2) rfl (by kernel_rfl) (by kernel_rfl) (by kernel_rfl) (fun _ _ _ h => h) (Or.inl ⟨by rfl, ?ya2⟩) (by assumption) ?ra2
    case ya2 => (intro wq hSw; (try dsimp only at hSw); go_simp; try with_reducible rfl)
    simp only [Act.put, List.setIfInBounds_toArray, List.set_cons_zero, List.set_cons_succ]
    refine wpAnyH_take (i := 3) (oi := { dst := some 12, op := Go.Op.load 3 (Go.Operand.tmp 11), type := 3, pos := "reader.go:57", after := #[{ on := 2, ground := Go.Ground.data }, { on := 6, ground := Go.Ground.gcOnly Go.Departure.lateStores }], guard := none }) (v := ?va3) rfl (by kernel_rfl) (by kernel_rfl) (by kernel_rfl) (fun _ _ _ h => h) (Or.inl ⟨by rfl, ?ya3⟩) (by assumption) ?ra3
    case ya3 => (intro wq hSw; (try dsimp only at hSw); go_simp; try with_reducible rfl)
    simp only [Act.put, List.setIfInBounds_toArray, List.set_cons_zero, List.set_cons_succ]
    refine wpAnyH_take (i := 4) (oi := { dst := some 13, op := Go.Op.move (Go.Operand.tmp 0), type := 85, pos := "reader.go:57", after := #[], guard := none }) (v := ?va4) rfl (by kernel_rfl) (by kernel_rfl) (by kernel_rfl) (fun _ _ _ h => h) (Or.inl ⟨by rfl, ?ya4⟩) (by assumption) ?ra4
    case ya4 => (intro wq hSw; (try dsimp only at hSw); go_simp; try with_reducible rfl)
    simp only [Act.put, List.setIfInBounds_toArray, List.set_cons_zero, List.set_cons_succ]
    refine wpAnyH_ready (rs := [5]) (by kernel_rfl) (by simp) (AllReadyH.cons (o := { dst := some 14, op := Go.Op.call { callee := Go.Callee.value (Go.Operand.func 80), args := #[Go.Operand.tmp 13], argTypes := #[85] }, type := 3, pos := "reader.go:57", after := #[{ on := 4, ground := Go.Ground.data }], guard := none }) rfl (fun K hK => ?_) AllReadyH.nil)
    go_simp
    go_at_call 80; refine (step_any r bk x1.drew c1 f1).mono ?_
    intro e x2 hp
    rcases hst : rStep r with _ | ⟨s, r2⟩
    · rw [hst] at hp
      obtain ⟨rfl, o2⟩ := hp
      refine ⟨rfl, ?_⟩
      rw [HR.out, hst]
      exact ⟨rfl, o01.trans o2.undrew⟩
    rw [hst] at hp
    obtain ⟨rfl, o2, c2⟩ := hp
    have HX := Lib.hid (show rPiece f (42 :: r) = some ((lo f, hi f, s), r2) from by rw [HR.out, hst]; rfl)
    clear hst
    refine Shut.out hK _ _ ⟨o2.undrew, (F1.only o2.undrew hne).c0, (F1.only o2.undrew hne).c1⟩ (fun hSb => ?_)
    clear hK K
    try skip
    refine wpAnyH_take (i := 6) (oi := { dst := some 4, op := Go.Op.assign (Go.Operand.tmp 10), type := 3, pos := "reader.go:57", after := #[{ on := 1, ground := Go.Ground.data }, { on := 5, ground := Go.Ground.chain }, { on := 0, ground := Go.Ground.phase }, { on := 1, ground := Go.Ground.phase }, { on := 2, ground := Go.Ground.textOnly Go.Departure.lateStores }, { on := 3, ground := Go.Ground.textOnly Go.Departure.lateStores }, { on := 4, ground := Go.Ground.textOnly Go.Departure.lateStores }, { on := 5, ground := Go.Ground.textOnly Go.Departure.lateStoresUnsure }], guard := none }) (v := ?va6) rfl (by kernel_rfl) (by kernel_rfl) (by kernel_rfl) (fun _ _ _ h => h) (Or.inl ⟨by rfl, ?ya6⟩) (by assumption) ?ra6
    case ya6 => (intro wq hSw; (try dsimp only at hSw); go_simp; try with_reducible rfl)
    simp only [Act.put, List.setIfInBounds_toArray, List.set_cons_zero, List.set_cons_succ]
    refine wpAnyH_take (i := 7) (oi := { dst := some 5, op := Go.Op.assign (Go.Operand.tmp 12), type := 3, pos := "reader.go:57", after := #[{ on := 3, ground := Go.Ground.data }, { on := 6, ground := Go.Ground.chain }, { on := 0, ground := Go.Ground.phase }, { on := 1, ground := Go.Ground.phase }, { on := 2, ground := Go.Ground.phase }, { on := 3, ground := Go.Ground.phase }, { on := 4, ground := Go.Ground.textOnly Go.Departure.lateStores }, { on := 5, ground := Go.Ground.textOnly Go.Departure.lateStoresUnsure }, { on := 6, ground := Go.Ground.phase }], guard := none }) (v := ?va7) rfl (by kernel_rfl) (by kernel_rfl) (by kernel_rfl) (fun _ _ _ h => h) (Or.inl ⟨by rfl, ?ya7⟩) (by assumption) ?ra7
    case ya7 => (intro wq hSw; (try dsimp only at hSw); go_simp; try with_reducible rfl)
    simp only [Act.put, List.setIfInBounds_toArray, List.set_cons_zero, List.set_cons_succ]
    refine wpAnyH_take (i := 8) (oi := { dst := some 6, op := Go.Op.assign (Go.Operand.tmp 14), type := 3, pos := "reader.go:57", after := #[{ on := 5, ground := Go.Ground.data }, { on := 7, ground := Go.Ground.chain }, { on := 0, ground := Go.Ground.phase }, { on := 1, ground := Go.Ground.phase }, { on := 2, ground := Go.Ground.phase }, { on := 3, ground := Go.Ground.phase }, { on := 4, ground := Go.Ground.phase }, { on := 5, ground := Go.Ground.phase }, { on := 6, ground := Go.Ground.phase }, { on := 7, ground := Go.Ground.phase }], guard := none }) (v := ?va8) rfl (by kernel_rfl) (by kernel_rfl) (by kernel_rfl) (fun _ _ _ h => h) (Or.inl ⟨by rfl, ?ya8⟩) (by assumption) ?ra8
    case ya8 => (intro wq hSw; (try dsimp only at hSw); go_simp; try with_reducible rfl)
    simp only [Act.put, List.setIfInBounds_toArray, List.set_cons_zero, List.set_cons_succ]
    refine wpAnyH_done (by kernel_rfl) ?_ _
    go_wp2
    refine bodyPost_ret (v := tri (lo f, hi f, s)) (by simp [results, Tryz.results64, tri]) rfl ?_
    rw [HX.out]; exact ⟨rfl, o01.trans o2.undrew, c2⟩
  · have HR := Lib.hid (show rPiece f l = (rNum f l).bind fun p => if p.2.head? = some 45 then (rNum f p.2.tail).bind fun q => if p.1 ≤ q.1 then (rStep q.2).map fun s => ((p.1, q.1, s.1), s.2) else none else some ((p.1, p.1, 1), p.2) by rw [rPiece, if_neg hs])
    go_enter Tryz.func64, Tryz.ntmps64
    go_upto_region 1 with (fail)
    generalize w.alloc (fldO f) = x at *
    go_wp2_with fail
    refine (skip_no 42 l hs bk _ c0 f0).mono ?_
    rintro e x1 ⟨rfl, o1, c1⟩
    clear hs
    have f1 := o1.frozen.trans f0
    have F1 := F0.only o1 hne
    have t1 := t0.only hn o1
    obtain ⟨e0, e1, e2, e3⟩ := (⟨F1.c0, F1.c1, F1.c2, F1.c3⟩ : _ ∧ _ ∧ _ ∧ _)
    have o01 := o0.trans o1
    go_wp2_with fail
    refine (number_any f l bk n _ hn t1 c1 f1).mono ?_
    intro e x2 hp
    rcases h1 : rNum f l with _ | ⟨a, l1⟩
    · rw [h1] at hp
      obtain ⟨rfl, o2⟩ := hp
      refine ⟨rfl, ?_⟩
      rw [HR.out, h1]
      exact ⟨rfl, o01.trans o2⟩
    rw [h1] at hp
    obtain ⟨rfl, o2, c2⟩ := hp
    have H1 := Lib.hid h1; clear h1 e0 e1 e2 e3
    have f2 := o2.frozen.trans f1
    have F2 := F1.only o2 hne
    have t2 := t1.only hn o2
    have o02 := o01.trans o2
    by_cases hd : l1.head? = some 45
    · obtain ⟨r, rfl⟩ : ∃ r, l1 = 45 :: r := by
        cases l1 with
        | nil => cases hd
        | cons a r => injection hd with hd; subst hd; exact ⟨r, rfl⟩
      have HQ := Lib.hid (show rPiece f l = (rNum f r).bind fun q => if a ≤ q.1 then (rStep q.2).map fun s => ((a, q.1, s.1), s.2) else none by rw [HR.out, H1.out, Option.bind_some, if_pos hd]; rfl)
      clear HR hd
      go_wp2_with fail
      refine (skip_yes 45 r bk _ c2 f2).mono ?_
      rintro e x3 ⟨rfl, o3, c3⟩
      have f3 := o3.frozen.trans f2
      have F3 := F2.only o3 hne
      have t3 := t2.only hn o3
      have o03 := o02.trans o3
      obtain ⟨e0, e1, e2, e3⟩ := (⟨F3.c0, F3.c1, F3.c2, F3.c3⟩ : _ ∧ _ ∧ _ ∧ _)
      go_wp2_with fail
      refine (number_any f r bk n _ hn t3 c3 f3).mono ?_
      intro e x4 hp
      rcases h2 : rNum f r with _ | ⟨b, l2⟩
      · rw [h2] at hp
        obtain ⟨rfl, o4⟩ := hp
        refine ⟨rfl, ?_⟩
        rw [HQ.out, h2]
        exact ⟨rfl, o03.trans o4⟩
      rw [h2] at hp
      obtain ⟨rfl, o4, c4⟩ := hp
      have H2 := Lib.hid h2; clear h2 e0 e1 e2 e3
      have f4 := o4.frozen.trans f3
      have o04 := o03.trans o4
      by_cases hab : a ≤ b
      · have HP := Lib.hid (show rPiece f l = (rStep l2).map fun s => ((a, b, s.1), s.2) by rw [HQ.out, H2.out, Option.bind_some, if_pos hab])
        go_wp2_with fail
        refine (need_ok _ rfl _).mono ?_
        rintro e x5 ⟨rfl, rfl⟩
        go_wp2_with fail
        refine (step_any l2 bk _ c4 f4).mono ?_
        intro e x6 hp
        rcases h3 : rStep l2 with _ | ⟨s, l3⟩
        · rw [h3] at hp
          obtain ⟨rfl, o6⟩ := hp
          refine ⟨rfl, ?_⟩
          rw [HP.out, h3]
          exact ⟨rfl, o04.trans o6⟩
        rw [h3] at hp
        obtain ⟨rfl, o6, c6⟩ := hp
        have H3 := Lib.hid h3; clear h3
        go_wp2
        refine bodyPost_ret (v := tri (a, b, s)) (by simp [results, Tryz.results64, tri]) rfl ?_
        rw [HP.out, H3.out]
        exact ⟨rfl, o04.trans o6, c6⟩
      · go_wp2_with fail
        refine (need_not _ (decide_eq_false (by omega)) _).mono ?_
        rintro e x5 ⟨rfl, rfl⟩
        refine ⟨rfl, ?_⟩
        rw [HQ.out, H2.out, Option.bind_some, if_neg (show ¬ a ≤ b by omega)]
        exact ⟨rfl, o04⟩
    · have HP := Lib.hid (show rPiece f l = some ((a, a, 1), l1) by rw [HR.out, H1.out, Option.bind_some, if_neg hd])
      go_wp2_with fail
      refine (skip_no 45 l1 hd bk _ c2 f2).mono ?_
      rintro e x3 ⟨rfl, o3, c3⟩
      go_wp2
      refine bodyPost_ret (v := tri (a, a, 1)) (by simp [results, Tryz.results64, tri]) rfl ?_
      rw [HP.out]
      exact ⟨rfl, o02.trans o3, c3⟩
end Go.Proofs.YtcmdjpgabkjbpaaGreatDoor
