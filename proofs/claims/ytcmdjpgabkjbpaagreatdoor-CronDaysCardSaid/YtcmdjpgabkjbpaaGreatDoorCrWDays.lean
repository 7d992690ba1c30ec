/- With the day of the month and the day of the week both told a day is one, if either has it; with one of them a star the other one decides; the month always does. -/
import Derived.Test.YtcmdjpgabkjbpaaGreatDoorCrFew
import Derived.Test.YtcmdjpgabkjbpaaGreatDoorCrDay
import Derived.Test.YtcmdjpgabkjbpaaGreatDoorCrWrite
import Derived.Test.YtcmdjpgabkjbpaaGreatDoorCrRefA
import Derived.Test.YtcmdjpgabkjbpaaGreatDoorCrAwake
set_option linter.unusedVariables false
namespace Go.Proofs.YtcmdjpgabkjbpaaGreatDoor
open Go.ChangeShapes Go.WideShapes Go.ChangeAt Go.RowKit
open Crn Civ
theorem dhas_any (v : Value) (l : List Int) (n : Int) (w : World) (hv : Rs w v l) : Calls Tryz.prog 25 #[v, .int .i64 n] w fun e w' => e = .returned (.bool (hasB l n)) ∧ w = w' := rhas_any v l n w hv
theorem rises_all : ∀ {l : List Int} {m top : Int}, rises m top l = true → (l.length : Int) = top + 1 - m → ∀ x, m ≤ x → x ≤ top → x ∈ l
  | [], m, top, h, hl, x, h1, h2 => by simp at hl; omega
  | a :: r, m, top, h, hl, x, h1, h2 => by
    simp only [rises, Bool.and_eq_true, decide_eq_true_eq] at h
    have hr := rises_len h.2
    simp only [List.length_cons] at hl
    rw [Int.max_def] at hr
    have ha : a = m := by split at hr <;> omega
    by_cases hx : x = a
    · rw [hx]; exact List.mem_cons_self
    · exact List.mem_cons_of_mem _ (rises_all h.2 (by omega) x (by omega) h2)
theorem star_has {f : Nat} {l : List Int} {s : Bool} (h : mayF f l s = true) (hs : s = true) {x : Int} (h1 : lo f ≤ x) (h2 : x ≤ Crn.hi f) : hasB l x = true := by
  subst hs
  simp only [mayF, Bool.and_eq_true, Bool.not_true, Bool.false_or, decide_eq_true_eq] at h
  exact List.contains_iff_mem.2 (rises_all h.1.2 (by omega) x h1 h2)
theorem wd_bd (n : Int) : 0 ≤ wd n ∧ wd n ≤ 6 := by unfold wd; split <;> omega
theorem dim_le (y m : Int) : dim y m ≤ 31 := by
  have := lp_01 y
  unfold dim
  split <;> omega
theorem day_pure {c : CR} {y m d : Int} (hm : mayC c = true) (hk : okP y m d) : (hasB (c.L 3) m = false → dayC c y m d = false) ∧
    (hasB (c.L 3) m = true → c.st 2 = true → dayC c y m d = hasB (c.L 4) (wd (ord y m d))) ∧
    (hasB (c.L 3) m = true → c.st 2 = false → c.st 4 = true → dayC c y m d = hasB (c.L 2) d) ∧
    (hasB (c.L 3) m = true → c.st 2 = false → c.st 4 = false → dayC c y m d = (hasB (c.L 2) d || hasB (c.L 4) (wd (ord y m d)))) := by
  have hb : okB y m d = true := (okB_iff y m d).2 hk
  obtain ⟨_, _, k3, k4⟩ := hk
  have hd := dim_le y m
  have hw := wd_bd (ord y m d)
  unfold dayC
  rw [hb, hm]
  refine ⟨fun h => by rw [h]; rfl, fun h h2 => ?_, fun h h2 h4 => ?_, fun h h2 h4 => ?_⟩
  · rw [h, h2, star_has (mayC_at hm 2 (by omega)) h2 (show lo 2 ≤ d from k3) (show d ≤ Crn.hi 2 from Int.le_trans k4 hd)]; simp
  · rw [h, h2, h4, star_has (mayC_at hm 4 (by omega)) h4 (show lo 4 ≤ _ from hw.1) (show _ ≤ Crn.hi 4 from hw.2)]; simp
  · rw [h, h2, h4]; simp
set_option maxRecDepth 100000 in
set_option maxHeartbeats 4000000 in
theorem days_walk (c : CR) (sl : Nat → Value) (y m d : Int) (w : World) (hc : Cr w sl c.L) (htab : Tab w) : Calls Tryz.prog 6 #[crV sl c.st, .int .i64 y, .int .i64 m, .int .i64 d] w fun e w' => e = .returned (.bool true) ∧ Kept w w' := by
  have k0 := (Kept.refl w).alloc (.cells (cr10 sl c.st) 27)
  have B0 := Lib.hid (Cb.new sl c.st w)
  have C0 := Lib.hid (hc.kept k0)
  have T0 := Lib.hid ((Tb.start htab).kept k0)
  have K0 := Lib.hid k0
  clear hc htab k0
  go_enter Tryz.func6, Tryz.ntmps6
  go_upto_region 1 with (fail)
  generalize w.alloc (.cells (cr10 sl c.st) 27) = x at *
  go_wp2_with fail
  refine (awake_yes _ T0.out.tab).mono ?_
  rintro e x1 ⟨rfl, k1⟩
  have B1 := Lib.hid (B0.out.kept k1); have C1 := Lib.hid (C0.out.kept k1); have K1 := Lib.hid (K0.out.trans k1)
  clear k1 B0 C0 K0
  clear T0
  obtain ⟨e0, e1, e2, e3, e4, e5, e6, e7, e8, e9⟩ := cells10 B1.out
  go_wp2_with fail
  refine (few_any c sl _ C1.out).mono ?_
  rintro e x2 ⟨rfl, k2⟩
  have B2 := Lib.hid (B1.out.kept k2); have C2 := Lib.hid (C1.out.kept k2); have K2 := Lib.hid (K1.out.trans k2)
  clear k2 B1 C1 K1
  clear e0 e1 e2 e3 e4 e5 e6 e7 e8 e9
  generalize decide (FewP c) = few at *
  by_cases ko : okP y m d
  · have KO := Lib.hid ko; clear ko
    obtain ⟨e0, e1, e2, e3, e4, e5, e6, e7, e8, e9⟩ := cells10 B2.out
    go_wp2_with fail
    refine (ord_yes y m d _ KO.out).mono ?_
    rintro e x3 ⟨rfl, k3⟩
    have B3 := Lib.hid (B2.out.kept k3); have C3 := Lib.hid (C2.out.kept k3); have K3 := Lib.hid (K2.out.trans k3)
    clear k3 B2 C2 K2
    clear e0 e1 e2 e3 e4 e5 e6 e7 e8 e9
    have HP := Lib.hid (fun hm : mayC c = true => day_pure (y := y) (m := m) (d := d) hm KO.out)
    generalize ord y m d = n at *
    obtain ⟨e0, e1, e2, e3, e4, e5, e6, e7, e8, e9⟩ := cells10 B3.out
    cases few with
    | false =>
      go_wp2
      go_ret
      exact ⟨rfl, K3.out⟩
    | true =>
      go_wp2_with fail
      refine (cmay_any c sl _ C3.out).mono ?_
      rintro e x4 ⟨rfl, k4⟩
      have B4 := Lib.hid (B3.out.kept k4); have C4 := Lib.hid (C3.out.kept k4); have K4 := Lib.hid (K3.out.trans k4)
      clear k4 B3 C3 K3
      clear e0 e1 e2 e3 e4 e5 e6 e7 e8 e9
      obtain ⟨e0, e1, e2, e3, e4, e5, e6, e7, e8, e9⟩ := cells10 B4.out
      cases hm : mayC c with
      | false =>
        go_wp2
        go_ret
        exact ⟨rfl, K4.out⟩
      | true =>
        have HM := Lib.hid hm; clear hm
        go_wp2_with fail
        refine (day_any c sl y m d _ C4.out).mono ?_
        rintro e x5 ⟨rfl, k5⟩
        have B5 := Lib.hid (B4.out.kept k5); have C5 := Lib.hid (C4.out.kept k5); have K5 := Lib.hid (K4.out.trans k5)
        clear k5 B4 C4 K4
        clear e0 e1 e2 e3 e4 e5 e6 e7 e8 e9
        obtain ⟨e0, e1, e2, e3, e4, e5, e6, e7, e8, e9⟩ := cells10 B5.out
        obtain ⟨p1, p2, p3, p4⟩ := HP.out HM.out
        have P1 := Lib.hid p1; have P2 := Lib.hid p2; have P3 := Lib.hid p3; have P4 := Lib.hid p4
        clear p1 p2 p3 p4 HP HM
        have r2 := Lib.hid (C5.out 2 (by omega)); have r3 := Lib.hid (C5.out 3 (by omega)); have r4 := Lib.hid (C5.out 4 (by omega))
        generalize dayC c y m d = is at *
        generalize hs2 : c.st 2 = s2 at *
        generalize hs4 : c.st 4 = s4 at *
        generalize sl 2 = v2 at *
        generalize hv3 : sl 3 = v3 at *
        generalize sl 4 = v4 at *
        have Q2 := Lib.hid hs2; have Q4 := Lib.hid hs4; have Q3 := Lib.hid hv3
        clear hs2 hs4 hv3
        go_wp2_with fail
        refine (dhas_any v2 (c.L 2) d _ r2.out).mono ?_
        rintro e x6 ⟨rfl, rfl⟩
        generalize hasB (c.L 2) d = hd at *
        go_upto_region 10 with (fail)
        have K5b := Lib.hid ((Kept.refl x5).drew)
        refine wp_region_held_drew (S := fun y => Kept x5 y ∧ y.cell? ⟨w.heap.size, 4, none⟩ = some v4) (by kernel_rfl) ⟨K5b.out, e4⟩ (fun hS0 => ?_)
        refine wpAnyH_take (i := 0) (oi := { dst := some 53, op := Go.Op.fieldAddr 27 (Go.Operand.tmp 4) 0, type := 0, pos := "law.go:89", after := #[], guard := none }) (v := ?vq0) rfl (by kernel_rfl) (by kernel_rfl) (by kernel_rfl) (fun _ _ _ h => h) (Or.inl ⟨by rfl, ?yq0⟩) (by assumption) ?rq0
        case yq0 => (intro wq hSw; (try dsimp only at hSw); go_simp; try with_reducible rfl)
        simp only [Act.put, List.setIfInBounds_toArray, List.set_cons_zero, List.set_cons_succ]
        refine wpAnyH_take (i := 1) (oi := { dst := some 54, op := Go.Op.indexAddr 24 (Go.Operand.tmp 53) (Go.Operand.const (Go.Value.int Go.IntKind.i64 4)), type := 0, pos := "law.go:89", after := #[{ on := 0, ground := Go.Ground.data }], guard := none }) (v := ?vq1) rfl (by kernel_rfl) (by kernel_rfl) (by kernel_rfl) (fun _ _ _ h => h) (Or.inl ⟨by rfl, ?yq1⟩) (by assumption) ?rq1
        case yq1 => (intro wq hSw; (try dsimp only at hSw); go_simp; try with_reducible rfl)
        simp only [Act.put, List.setIfInBounds_toArray, List.set_cons_zero, List.set_cons_succ]
        refine wpAnyH_take (i := 2) (oi := { dst := some 55, op := Go.Op.load 23 (Go.Operand.tmp 54), type := 23, pos := "law.go:89", after := #[{ on := 1, ground := Go.Ground.data }], guard := none }) (v := ?vq2) rfl (by kernel_rfl) (by kernel_rfl) (by kernel_rfl) (fun _ _ _ h => h) (Or.inl ⟨by rfl, ?yq2⟩) (by assumption) ?rq2
        case yq2 => (intro wq hSw; (try dsimp only at hSw); go_simp; try with_reducible rfl)
        simp only [Act.put, List.setIfInBounds_toArray, List.set_cons_zero, List.set_cons_succ]
        refine wpAnyH_take (i := 3) (oi := { dst := some 56, op := Go.Op.move (Go.Operand.tmp 11), type := 3, pos := "law.go:89", after := #[], guard := none }) (v := ?vq3) rfl (by kernel_rfl) (by kernel_rfl) (by kernel_rfl) (fun _ _ _ h => h) (Or.inl ⟨by rfl, ?yq3⟩) (by assumption) ?rq3
        case yq3 => (intro wq hSw; (try dsimp only at hSw); go_simp; try with_reducible rfl)
        simp only [Act.put, List.setIfInBounds_toArray, List.set_cons_zero, List.set_cons_succ]
        refine wpAnyH_ready (rs := [4]) (by kernel_rfl) (by simp) (AllReadyH.cons (o := { dst := some 57, op := Go.Op.call { callee := Go.Callee.value (Go.Operand.func 26), args := #[Go.Operand.tmp 56], argTypes := #[3] }, type := 3, pos := "law.go:89", after := #[{ on := 3, ground := Go.Ground.data }], guard := none }) rfl (fun K hK => ?_) AllReadyH.nil)
        go_simp
        go_at_call 26; refine (wday_any n _).mono ?_
        rintro e x6 ⟨rfl, rfl⟩
        refine Shut.out hK _ _ ‹Kept x5 _ ∧ _› (fun hSb => ?_)
        clear hK K
        try simp only [Act.put, List.setIfInBounds_toArray, List.set_cons_zero, List.set_cons_succ]
        refine wpAnyH_ready (rs := [5]) (by kernel_rfl) (by simp) (AllReadyH.cons (o := { dst := some 58, op := Go.Op.call { callee := Go.Callee.value (Go.Operand.func 25), args := #[Go.Operand.tmp 55, Go.Operand.tmp 57], argTypes := #[23, 3] }, type := 4, pos := "law.go:89", after := #[{ on := 2, ground := Go.Ground.data }, { on := 4, ground := Go.Ground.data }, { on := 4, ground := Go.Ground.chain }], guard := none }) rfl (fun K hK => ?_) AllReadyH.nil)
        go_simp
        go_at_call 25; refine (dhas_any v4 (c.L 4) (wd n) _ (r4.out.kept K5b.out)).mono ?_
        rintro e x6 ⟨rfl, rfl⟩
        refine Shut.out hK _ _ ‹Kept x5 _ ∧ _› (fun hSb => ?_)
        clear hK K
        try simp only [Act.put, List.setIfInBounds_toArray, List.set_cons_zero, List.set_cons_succ]
        refine wpAnyH_take (i := 6) (oi := { dst := some 15, op := Go.Op.assign (Go.Operand.tmp 58), type := 4, pos := "law.go:89", after := #[{ on := 5, ground := Go.Ground.data }, { on := 5, ground := Go.Ground.chain }, { on := 0, ground := Go.Ground.phase }, { on := 1, ground := Go.Ground.phase }, { on := 2, ground := Go.Ground.phase }, { on := 3, ground := Go.Ground.phase }, { on := 4, ground := Go.Ground.phase }, { on := 5, ground := Go.Ground.phase }], guard := none }) (v := ?vq6) rfl (by kernel_rfl) (by kernel_rfl) (by kernel_rfl) (fun _ _ _ h => h) (Or.inl ⟨by rfl, ?yq6⟩) (by assumption) ?rq6
        case yq6 => (intro wq hSw; (try dsimp only at hSw); go_simp; try with_reducible rfl)
        simp only [Act.put, List.setIfInBounds_toArray, List.set_cons_zero, List.set_cons_succ]
        refine wpAnyH_done (by kernel_rfl) ?_ _
        clear hSb hS0
        generalize hasB (c.L 4) (wd n) = hw at *
        have B6 := Lib.hid (B5.out.kept K5b.out); have K6 := Lib.hid (K5.out.trans K5b.out)
        clear e0 e1 e2 e3 e4 e5 e6 e7 e8 e9
        obtain ⟨e0, e1, e2, e3, e4, e5, e6, e7, e8, e9⟩ := cells10 B6.out
        rw [Q2.out] at e7; rw [Q4.out] at e9; rw [Q3.out] at e3
        go_wp2_with fail
        refine (dhas_any v3 (c.L 3) m _ (r3.out.kept K5b.out)).mono ?_
        rintro e x7 ⟨rfl, rfl⟩
        generalize hasB (c.L 3) m = hm at *
        clear r2 r3 r4 B5 C5 K5 K5b B6
        cases hm with
        | false =>
          obtain rfl := P1.out rfl
          clear P1 P2 P3 P4
          go_wp2
          go_ret
          exact ⟨rfl, K6.out⟩
        | true =>
          cases s2 with
          | true =>
            obtain rfl := P2.out rfl rfl
            clear P1 P2 P3 P4
            cases is
            all_goals
              go_wp2
              go_ret
              exact ⟨rfl, K6.out⟩
          | false =>
            cases s4 with
            | true =>
              obtain rfl := P3.out rfl rfl rfl
              clear P1 P2 P3 P4
              cases is
              all_goals
                go_wp2
                go_ret
                exact ⟨rfl, K6.out⟩
            | false =>
              obtain rfl := P4.out rfl rfl rfl
              clear P1 P2 P3 P4
              cases hd <;> cases hw
              all_goals
                go_wp2
                go_ret
                exact ⟨rfl, K6.out⟩
  · have KO := Lib.hid ko; clear ko
    obtain ⟨e0, e1, e2, e3, e4, e5, e6, e7, e8, e9⟩ := cells10 B2.out
    go_wp2_with fail
    refine (ord_not y m d _ KO.out).mono ?_
    rintro e x3 ⟨rfl, k3⟩
    have B3 := Lib.hid (B2.out.kept k3); have C3 := Lib.hid (C2.out.kept k3); have K3 := Lib.hid (K2.out.trans k3)
    clear k3 B2 C2 K2
    clear e0 e1 e2 e3 e4 e5 e6 e7 e8 e9
    have HD := Lib.hid (show dayC c y m d = false by unfold dayC; rw [(okB_no y m d).2 KO.out]; rfl)
    obtain ⟨e0, e1, e2, e3, e4, e5, e6, e7, e8, e9⟩ := cells10 B3.out
    cases few with
    | false =>
      go_wp2
      go_ret
      exact ⟨rfl, K3.out⟩
    | true =>
      go_wp2_with fail
      refine (cmay_any c sl _ C3.out).mono ?_
      rintro e x4 ⟨rfl, k4⟩
      have B4 := Lib.hid (B3.out.kept k4); have C4 := Lib.hid (C3.out.kept k4); have K4 := Lib.hid (K3.out.trans k4)
      clear k4 B3 C3 K3
      clear e0 e1 e2 e3 e4 e5 e6 e7 e8 e9
      obtain ⟨e0, e1, e2, e3, e4, e5, e6, e7, e8, e9⟩ := cells10 B4.out
      cases hm : mayC c with
      | false =>
        go_wp2
        go_ret
        exact ⟨rfl, K4.out⟩
      | true =>
        have HM := Lib.hid hm; clear hm
        go_wp2_with fail
        refine (day_any c sl y m d _ C4.out).mono ?_
        rintro e x5 ⟨rfl, k5⟩
        have B5 := Lib.hid (B4.out.kept k5); have C5 := Lib.hid (C4.out.kept k5); have K5 := Lib.hid (K4.out.trans k5)
        clear k5 B4 C4 K4
        clear e0 e1 e2 e3 e4 e5 e6 e7 e8 e9
        obtain ⟨e0, e1, e2, e3, e4, e5, e6, e7, e8, e9⟩ := cells10 B5.out
        rw [HD.out]
        go_wp2
        go_ret
        exact ⟨rfl, K5.out⟩
end Go.Proofs.YtcmdjpgabkjbpaaGreatDoor
