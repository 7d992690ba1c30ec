/- Package reply: a line is read; Bad and Left. -/
import Derived.Test.YtdfmnjoklehifaaDoorRpA
set_option linter.unusedSimpArgs false
set_option linter.unusedVariables false
namespace Go.Proofs.YtdfmnjoklehifaaDoor.Bk.Rp
open Go.ChangeShapes Go.WideShapes Go.ChangeAt Go.RowKit Go.Shelf
abbrev lineV (x : Int × Bool × B) : Value := .agg #[iV x.1, .bool x.2.1, sV x.2.2]
/-- how a line's reading ends -/
def RlP (d : Option (Int × Bool × B)) (w : World) (e : Ending) (w' : World) : Prop := Kept w w' ∧ match d with
  | some x => e = .returned (lineV x)
  | none => e = gon
/-- a line in a block -/
def L3 (b : Nat) (c : Int) (l : Bool) (t : B) (w : World) : Prop := w.heap[b]? = some (.cells #[iV c, .bool l, sV t] 67 (0, 0))
theorem L3.lt {b : Nat} {c : Int} {l : Bool} {t : B} {w : World} (h : L3 b c l t w) : b < w.heap.size := (Array.getElem?_eq_some_iff.1 h).1
theorem L3.kept {b : Nat} {c : Int} {l : Bool} {t : B} {w w' : World} (h : L3 b c l t w) (k : Kept w w') : L3 b c l t w' := (k.block _ h.lt).trans h
theorem L3.cs {b : Nat} {c : Int} {l : Bool} {t : B} {w : World} (h : L3 b c l t w) : w.cell? ⟨b, 0, none⟩ = some (iV c) ∧ w.cell? ⟨b, 1, none⟩ = some (.bool l) ∧ w.cell? ⟨b, 2, none⟩ = some (sV t) := ⟨cell_at h rfl, cell_at h rfl, cell_at h rfl⟩
theorem L3.frz {b : Nat} {c : Int} {l : Bool} {t : B} {w : World} (h : L3 b c l t w) (j : Nat) : w.frozen? ⟨b, j, none⟩ = false := by unfold L3 at h; simp [World.frozen?, h]
theorem L3.new (w : World) (c : Int) (l : Bool) (t : B) : L3 w.heap.size c l t (w.alloc (.cells #[iV c, .bool l, sV t] 67)) := World.alloc_heap_new w _
theorem L3.set {b : Nat} {c : Int} {l : Bool} {t : B} {w : World} (h : L3 b c l t w) (c' : Int) (l' : Bool) (t' : B) : L3 b c' l' t' (((w.setCell ⟨b, 0, none⟩ (iV c')).setCell ⟨b, 1, none⟩ (.bool l')).setCell ⟨b, 2, none⟩ (sV t')) := by
  unfold L3 at h ⊢; simp [World.setCell, Array.getElem?_modify, h]
set_option maxRecDepth 100000 in
theorem rl_res (tmps : Array Value) (W : World) (b : Nat) {c : Int} {l : Bool} {t : B} (h : L3 b c l t W) (hp : tmps.getD 2 undef = pV b) : (results Tryd.f45 tmps).run Tryd.prog W = .ok (.agg #[iV c, .bool l, sV t]) W :=
  results_cell_row Tryd.results45 tmps W b 67 _ (0, 0) _ hp h Tryd.underlying67 rfl (by kernel_rfl)
theorem rdL_eq {s p : B} (h : s.getLast? = some 13) (hp : s.dropLast = p) : rdL s = rdP p := by unfold rdL; rw [if_pos h, hp]
theorem rdP_no {p : B} (h : ¬ ((13 : UInt8) ∉ p ∧ 4 ≤ p.length ∧ p.length ≤ 510)) : rdP p = none := by unfold rdP; rw [if_neg h]
theorem rdP_code {p : B} (h : okC (atN (p.take 3)) = false) (h4 : 4 ≤ p.length) : rdP p = none := by
  cases hr : rdP p with
  | none => rfl
  | some x =>
    obtain ⟨g1, g2, g3, g4⟩ := rdP_some hr
    have e3 : p.take 3 = Lib.decDigits x.1.toNat := by
      have := dec_len3 g1
      rw [g4]; unfold lb
      rw [List.take_append_of_le_length (by omega), List.take_of_length_le (by omega)]
    have hb := okC_iff.1 g1
    rw [e3, atN_nm (nm_dec (n := x.1.toNat) (by omega))] at h
    rw [show ((x.1.toNat : Nat) : Int) = x.1 by omega] at h
    rw [g1] at h; cases h
theorem rdP_sgn {p : B} {u : UInt8} (hu : p[3]? = some u) (h1 : u ≠ 45) (h2 : u ≠ 32) : rdP p = none := by
  unfold rdP
  rw [hu]
  split
  · split
    · rw [if_neg (by simp [h1, h2])]
    · rfl
  · rfl
theorem rdP_ok {p : B} {u : UInt8} (h13 : (13 : UInt8) ∉ p) (h4 : 4 ≤ p.length) (h5 : p.length ≤ 510) (hc : okC (atN (p.take 3)) = true) (hu : p[3]? = some u) (h : u = 45 ∨ u = 32) :
    rdP p = some (atN (p.take 3), decide (u = 32), p.drop 4) := by
  obtain ⟨h1, h2⟩ := atN_code (by simp; omega) hc
  unfold rdP
  rw [if_pos ⟨h13, h4, h5⟩, h1, hu]
  simp only []
  rw [h2, if_pos ⟨hc, by rcases h with rfl | rfl <;> simp⟩]
  simp
theorem need_not (b : Bool) (h : b = false) (w : World) : Calls Tryd.prog 46 #[.bool b] w fun e w' => e = gon ∧ w = w' := by subst h; exact need_no w
set_option maxRecDepth 100000 in
set_option maxHeartbeats 8000000 in
theorem readLine_any (s : B) (w : World) (hE : EX w) (hl : s.length ≤ 1000000000) : Calls Tryd.prog 45 #[sV s] w (RlP (rdL s) w) := by
  have HS := Lib.hid (cutSuffix_any s)
  have K0 := Lib.hid ((Kept.refl w).alloc (.cells #[iV 0, .bool false, sV []] 67))
  have L0 := Lib.hid (L3.new w 0 false [])
  have HE := Lib.hid (hE.kept K0.out)
  clear hE
  by_cases h1 : s.getLast? = some 13
  · have HD := Lib.hid (rdL_eq h1 rfl)
    have hpl : s.dropLast.length ≤ s.length := by simp
    rw [if_pos h1, decide_eq_true h1] at HS
    generalize s.dropLast = p at *
    generalize rdL s = d at *
    clear h1
    have hps : (ByteArray.mk p.toArray).size = p.length := List.size_toArray
    have HC := Lib.hid (fun w hE => contains_any p w hE (by omega))
    by_cases h13 : (13 : UInt8) ∈ p
    · have HZ := Lib.hid (show d = none by rw [HD.out, rdP_no (fun e => e.1 h13)])
      rw [decide_eq_true h13] at HC
      clear HD h13
      go_enter Tryd.func45, Tryd.ntmps45
      go_upto_region 1 with (fail)
      generalize w.alloc (.cells #[iV 0, .bool false, sV []] 67) = W0 at *
      go_wp2_with fail
      refine (HS.out _ (by omega)).mono ?_
      rintro e w1 ⟨rfl, rfl⟩
      go_wp2_with fail
      refine (HC.out _ HE.out).mono ?_
      rintro e w2 ⟨rfl, rfl⟩
      go_wp2_with fail
      refine (need_no _).mono ?_
      rintro e wn ⟨rfl, rfl⟩
      exact ⟨rfl, K0.out, by rw [HZ.out]⟩
    · rw [decide_eq_false h13] at HC
      have H13 := Lib.hid h13
      clear h13
      by_cases h4 : 4 ≤ p.length
      · have i4 : (4 : Int) ≤ p.length := by omega
        by_cases h5 : p.length ≤ 510
        · have i5 : (p.length : Int) ≤ 510 := by omega
          have hx3 : ∀ W : World, (Instr.slice 9 (.string ⟨p.toArray⟩) none (some (.int .i64 3)) none).run Tryd.prog W = .ok (.string ⟨(p.take 3).toArray⟩) W := fun W => cut_to p 3 (by omega) W
          have HA := Lib.hid (fun w hE => atoi_any (p.take 3) w hE (by simp; omega))
          have HI := Lib.hid (fun w => isCode_any (atN (p.take 3)) w)
          have H4 := Lib.hid h4
          have H5 := Lib.hid h5
          cases hc : okC (atN (p.take 3)) with
          | false =>
            have HZ := Lib.hid (show d = none by rw [HD.out, rdP_code hc h4])
            rw [hc] at HI
            clear HD hc
            generalize atN (p.take 3) = av at *
            generalize p.take 3 = p3 at *
            go_enter Tryd.func45, Tryd.ntmps45
            go_upto_region 1 with (fail)
            generalize w.alloc (.cells #[iV 0, .bool false, sV []] 67) = W0 at *
            go_wp2_with fail
            refine (HS.out _ (by omega)).mono ?_
            rintro e w1 ⟨rfl, rfl⟩
            go_wp2_with fail
            refine (HC.out _ HE.out).mono ?_
            rintro e w2 ⟨rfl, rfl⟩
            go_wp2_with fail
            refine (need_yes _).mono ?_
            rintro e wy ⟨rfl, rfl⟩
            go_wp2_with fail
            refine (need_yes _).mono ?_
            rintro e wy ⟨rfl, rfl⟩
            go_wp2_with fail
            refine (HA.out _ HE.out).mono ?_
            rintro e w3 ⟨ev, rfl, k3⟩
            have K3 := Lib.hid (K0.out.trans k3)
            clear k3
            go_wp2_with fail
            refine (HI.out _).mono ?_
            rintro e w4 ⟨rfl, rfl⟩
            go_wp2_with fail
            refine (need_no _).mono ?_
            rintro e wn ⟨rfl, rfl⟩
            exact ⟨rfl, K3.out, by rw [HZ.out]⟩
          | true =>
            obtain ⟨u, hu⟩ : ∃ u, p[3]? = some u := ⟨_, List.getElem?_eq_getElem (by omega)⟩
            have hx4 : ∀ W : World, (Instr.slice 9 (.string ⟨p.toArray⟩) (some (.int .i64 3)) (some (.int .i64 4)) none).run Tryd.prog W = .ok (.string ⟨((p.take 4).drop 3).toArray⟩) W := fun W => cut_both p 3 4 (by omega) (by omega) W
            have hx5 : ∀ W : World, (Instr.slice 9 (.string ⟨p.toArray⟩) (some (.int .i64 4)) none none).run Tryd.prog W = .ok (.string ⟨(p.drop 4).toArray⟩) W := fun W => cut_from p 4 4 rfl (by omega) W
            have h34 : (p.take 4).drop 3 = [u] := by
              obtain ⟨hl3, rfl⟩ := List.getElem?_eq_some_iff.1 hu
              rw [List.drop_take, List.drop_eq_getElem_cons (by omega : 3 < p.length)]; rfl
            rw [h34] at hx4
            rw [hc] at HI
            have hcl : (p.drop 4).length ≤ 1000000000 := by simp; omega
            have HCl := Lib.hid (fun w => clone_any (p.drop 4) w (by omega))
            have HN := Lib.hid (fun h => rdP_ok H13.out h4 h5 hc hu h)
            have HN2 := Lib.hid (fun h1 h2 => rdP_sgn (p := p) (u := u) hu h1 h2)
            clear hc hu h34 hcl
            generalize atN (p.take 3) = av at *
            generalize p.take 3 = p3 at *
            generalize p.drop 4 = tx at *
            by_cases h45 : u = 45
            · subst h45
              have HZ := Lib.hid (show d = some (av, false, tx) by rw [HD.out, HN.out (Or.inl rfl)]; rfl)
              have f45 : (([45] : List UInt8) == [45]) = true := by decide
              have f32 : (([45] : List UInt8) == [32]) = false := by decide
              clear HD HN HN2
              go_enter Tryd.func45, Tryd.ntmps45
              go_upto_region 1 with (fail)
              generalize w.alloc (.cells #[iV 0, .bool false, sV []] 67) = W0 at *
              go_wp2_with fail
              refine (HS.out _ (by omega)).mono ?_
              rintro e w1 ⟨rfl, rfl⟩
              go_wp2_with fail
              refine (HC.out _ HE.out).mono ?_
              rintro e w2 ⟨rfl, rfl⟩
              go_wp2_with fail
              refine (need_yes _).mono ?_
              rintro e wy ⟨rfl, rfl⟩
              go_wp2_with fail
              refine (need_yes _).mono ?_
              rintro e wy ⟨rfl, rfl⟩
              go_wp2_with fail
              refine (HA.out _ HE.out).mono ?_
              rintro e w3 ⟨ev, rfl, k3⟩
              have K3 := Lib.hid (K0.out.trans k3)
              have L3' := Lib.hid (L0.out.kept k3)
              clear k3
              go_wp2_with fail
              refine (HI.out _).mono ?_
              rintro e w4 ⟨rfl, rfl⟩
              go_wp2_with fail
              refine (need_yes _).mono ?_
              rintro e wy ⟨rfl, rfl⟩
              go_upto_region 6 with (fail)
              go_quiet (fail)
              have L5 := Lib.hid (L3'.out.kept ((Kept.refl w3).drewN nq))
              have K5 := Lib.hid (K3.out.trans ((Kept.refl w3).drewN nq))
              generalize w3.drewN nq = w5 at *
              clear hx4 hx5 hx3
              go_wp2_with fail
              refine (need_yes _).mono ?_
              rintro e wy ⟨rfl, rfl⟩
              go_wp2_with fail
              refine (HCl.out _).mono ?_
              rintro e w6 ⟨rfl, k6⟩
              have L6 := Lib.hid (L5.out.kept k6)
              have K6 := Lib.hid (K5.out.trans k6)
              clear k6
              obtain ⟨n, hn⟩ : ∃ n, n = w.heap.size := ⟨_, rfl⟩
              have HNn := Lib.hid hn
              rw [← hn] at L6 ⊢
              clear hn
              obtain ⟨l0, l1, l2⟩ := L6.out.cs
              have fl := L6.out.frz
              have LZ := Lib.hid (L6.out.set av false tx)
              have KZ := Lib.hid (((K6.out.setCell (a := ⟨n, 0, none⟩) (by show w.heap.size ≤ n; rw [← HNn.out]; omega) (iV av)).setCell (a := ⟨n, 1, none⟩) (by show w.heap.size ≤ n; rw [← HNn.out]; omega) (.bool false)).setCell (a := ⟨n, 2, none⟩) (by show w.heap.size ≤ n; rw [← HNn.out]; omega) (sV tx))
              go_wp2
              exact bodyPost_ret (rl_res _ _ n LZ.out rfl) rfl ⟨KZ.out, by rw [HZ.out]⟩
            · by_cases h32 : u = 32
              · subst h32
                have HZ := Lib.hid (show d = some (av, true, tx) by rw [HD.out, HN.out (Or.inr rfl)]; rfl)
                have f45 : (([32] : List UInt8) == [45]) = false := by decide
                have f32 : (([32] : List UInt8) == [32]) = true := by decide
                clear HD HN HN2
                go_enter Tryd.func45, Tryd.ntmps45
                go_upto_region 1 with (fail)
                generalize w.alloc (.cells #[iV 0, .bool false, sV []] 67) = W0 at *
                go_wp2_with fail
                refine (HS.out _ (by omega)).mono ?_
                rintro e w1 ⟨rfl, rfl⟩
                go_wp2_with fail
                refine (HC.out _ HE.out).mono ?_
                rintro e w2 ⟨rfl, rfl⟩
                go_wp2_with fail
                refine (need_yes _).mono ?_
                rintro e wy ⟨rfl, rfl⟩
                go_wp2_with fail
                refine (need_yes _).mono ?_
                rintro e wy ⟨rfl, rfl⟩
                go_wp2_with fail
                refine (HA.out _ HE.out).mono ?_
                rintro e w3 ⟨ev, rfl, k3⟩
                have K3 := Lib.hid (K0.out.trans k3)
                have L3' := Lib.hid (L0.out.kept k3)
                clear k3
                go_wp2_with fail
                refine (HI.out _).mono ?_
                rintro e w4 ⟨rfl, rfl⟩
                go_wp2_with fail
                refine (need_yes _).mono ?_
                rintro e wy ⟨rfl, rfl⟩
                go_upto_region 6 with (fail)
                go_quiet (fail)
                have L5 := Lib.hid (L3'.out.kept ((Kept.refl w3).drewN nq))
                have K5 := Lib.hid (K3.out.trans ((Kept.refl w3).drewN nq))
                generalize w3.drewN nq = w5 at *
                clear hx4 hx5 hx3
                go_wp2_with fail
                refine (need_yes _).mono ?_
                rintro e wy ⟨rfl, rfl⟩
                go_wp2_with fail
                refine (HCl.out _).mono ?_
                rintro e w6 ⟨rfl, k6⟩
                have L6 := Lib.hid (L5.out.kept k6)
                have K6 := Lib.hid (K5.out.trans k6)
                clear k6
                obtain ⟨n, hn⟩ : ∃ n, n = w.heap.size := ⟨_, rfl⟩
                have HNn := Lib.hid hn
                rw [← hn] at L6 ⊢
                clear hn
                obtain ⟨l0, l1, l2⟩ := L6.out.cs
                have fl := L6.out.frz
                have LZ := Lib.hid (L6.out.set av true tx)
                have KZ := Lib.hid (((K6.out.setCell (a := ⟨n, 0, none⟩) (by show w.heap.size ≤ n; rw [← HNn.out]; omega) (iV av)).setCell (a := ⟨n, 1, none⟩) (by show w.heap.size ≤ n; rw [← HNn.out]; omega) (.bool true)).setCell (a := ⟨n, 2, none⟩) (by show w.heap.size ≤ n; rw [← HNn.out]; omega) (sV tx))
                go_wp2
                exact bodyPost_ret (rl_res _ _ n LZ.out rfl) rfl ⟨KZ.out, by rw [HZ.out]⟩
              · have HZ := Lib.hid (show d = none by rw [HD.out, HN2.out h45 h32])
                have f45 : ([u] == [45]) = false := by simp [h45]
                have f32 : ([u] == [32]) = false := by simp [h32]
                clear h45 h32
                clear HD HN HN2
                go_enter Tryd.func45, Tryd.ntmps45
                go_upto_region 1 with (fail)
                generalize w.alloc (.cells #[iV 0, .bool false, sV []] 67) = W0 at *
                go_wp2_with fail
                refine (HS.out _ (by omega)).mono ?_
                rintro e w1 ⟨rfl, rfl⟩
                go_wp2_with fail
                refine (HC.out _ HE.out).mono ?_
                rintro e w2 ⟨rfl, rfl⟩
                go_wp2_with fail
                refine (need_yes _).mono ?_
                rintro e wy ⟨rfl, rfl⟩
                go_wp2_with fail
                refine (need_yes _).mono ?_
                rintro e wy ⟨rfl, rfl⟩
                go_wp2_with fail
                refine (HA.out _ HE.out).mono ?_
                rintro e w3 ⟨ev, rfl, k3⟩
                have K3 := Lib.hid (K0.out.trans k3)
                have L3' := Lib.hid (L0.out.kept k3)
                clear k3
                go_wp2_with fail
                refine (HI.out _).mono ?_
                rintro e w4 ⟨rfl, rfl⟩
                go_wp2_with fail
                refine (need_yes _).mono ?_
                rintro e wy ⟨rfl, rfl⟩
                go_upto_region 6 with (fail)
                go_quiet (fail)
                have L5 := Lib.hid (L3'.out.kept ((Kept.refl w3).drewN nq))
                have K5 := Lib.hid (K3.out.trans ((Kept.refl w3).drewN nq))
                generalize w3.drewN nq = w5 at *
                clear hx4 hx5 hx3
                go_wp2_with fail
                refine (need_no _).mono ?_
                rintro e wn ⟨rfl, rfl⟩
                exact ⟨rfl, K5.out, by rw [HZ.out]⟩
        · have i5 : ¬ (p.length : Int) ≤ 510 := by omega
          have HZ := Lib.hid (show d = none by rw [HD.out, rdP_no (fun e => h5 e.2.2)])
          clear HD
          go_enter Tryd.func45, Tryd.ntmps45
          go_upto_region 1 with (fail)
          generalize w.alloc (.cells #[iV 0, .bool false, sV []] 67) = W0 at *
          go_wp2_with fail
          refine (HS.out _ (by omega)).mono ?_
          rintro e w1 ⟨rfl, rfl⟩
          go_wp2_with fail
          refine (HC.out _ HE.out).mono ?_
          rintro e w2 ⟨rfl, rfl⟩
          go_wp2_with fail
          refine (need_yes _).mono ?_
          rintro e wy ⟨rfl, rfl⟩
          go_wp2_with fail
          refine (need_not _ (by simp; omega) _).mono ?_
          rintro e wn ⟨rfl, rfl⟩
          exact ⟨rfl, K0.out, by rw [HZ.out]⟩
      · have i4 : ¬ (4 : Int) ≤ p.length := by omega
        have HZ := Lib.hid (show d = none by rw [HD.out, rdP_no (fun e => h4 e.2.1)])
        clear HD
        go_enter Tryd.func45, Tryd.ntmps45
        go_upto_region 1 with (fail)
        generalize w.alloc (.cells #[iV 0, .bool false, sV []] 67) = W0 at *
        go_wp2_with fail
        refine (HS.out _ (by omega)).mono ?_
        rintro e w1 ⟨rfl, rfl⟩
        go_wp2_with fail
        refine (HC.out _ HE.out).mono ?_
        rintro e w2 ⟨rfl, rfl⟩
        go_wp2_with fail
        refine (need_yes _).mono ?_
        rintro e wy ⟨rfl, rfl⟩
        go_wp2_with fail
        refine (need_no _).mono ?_
        rintro e wn ⟨rfl, rfl⟩
        exact ⟨rfl, K0.out, by rw [HZ.out]⟩
  · have HZ := Lib.hid (show rdL s = none by unfold rdL; rw [if_neg h1])
    rw [if_neg h1, decide_eq_false h1] at HS
    generalize rdL s = d at *
    clear h1
    go_enter Tryd.func45, Tryd.ntmps45
    go_upto_region 1 with (fail)
    generalize w.alloc (.cells #[iV 0, .bool false, sV []] 67) = W0 at *
    go_wp2_with fail
    refine (HS.out _ (by omega)).mono ?_
    rintro e w1 ⟨rfl, rfl⟩
    go_wp2_with fail
    refine (need_no _).mono ?_
    rintro e wn ⟨rfl, rfl⟩
    exact ⟨rfl, K0.out, by rw [HZ.out]⟩
end Go.Proofs.YtdfmnjoklehifaaDoor.Bk.Rp
