/- Package reply: May and Write. -/
import Derived.Test.YtdfmnjoklehifaaDoorRpEq
set_option linter.unusedSimpArgs false
set_option linter.unusedVariables false
namespace Go.Proofs.YtdfmnjoklehifaaDoor.Bk.Rp
open Go.ChangeShapes Go.WideShapes Go.ChangeAt Go.RowKit Go.Shelf
theorem okR_c {x : Rep} (h : okC x.1 = false) : okR x = false := by unfold okR; rw [h]; rfl
theorem okR_e {x : Rep} (h : x.2.1 = []) : okR x = false := by
  cases hr : okR x with
  | false => rfl
  | true => exact absurd h (okR_iff.1 hr).2.1
theorem okR_n {x : Rep} (h : 100 < x.2.1.length) : okR x = false := by
  cases hr : okR x with
  | false => rfl
  | true => have := (okR_iff.1 hr).2.2.1; omega
theorem okR_t {x : Rep} {t : B} {k : Nat} (h : x.2.1[k]? = some t) (ht : okT t = false) : okR x = false := by
  cases hr : okR x with
  | false => rfl
  | true => have := (okR_iff.1 hr).2.2.2.1 t (List.mem_of_getElem? h); rw [this] at ht; cases ht
theorem okR_m {x : Rep} {t : B} {k : Nat} (h1 : okC x.1 = true) (hk : x.2.1.length = k + 1) (h3 : x.2.1.length ≤ 100) (h4 : x.2.1.all okT = true) (ht : x.2.1[k]? = some t) : okR x = decide (x.2.2 = enh x.1 t) := by
  have hl : x.2.1.getLastD [] = t := by
    rw [List.getLastD_eq_getLast?, List.getLast?_eq_getElem?, hk, Nat.add_sub_cancel, ht]; rfl
  have hne : x.2.1 ≠ [] := fun e => by rw [e] at hk; simp at hk
  unfold okR
  rw [h1, h4, hl, decide_eq_true hne, decide_eq_true h3]
  simp
theorem okT_no {t : B} (h : 506 < t.length ∨ (13 : UInt8) ∈ t ∨ (10 : UInt8) ∈ t) : okT t = false := by
  cases ht : okT t with
  | false => rfl
  | true =>
    obtain ⟨h1, h2, h3⟩ := okT_iff.1 ht
    rcases h with h | h | h
    · omega
    · exact absurd h h2
    · exact absurd h h3
theorem all_step {l : List B} {k : Nat} {t : B} (h : (l.take k).all okT = true) (ht : l[k]? = some t) (h2 : okT t = true) : (l.take (k + 1)).all okT = true := by
  rw [List.take_add_one, ht]; simp only [Option.toList_some, List.all_append, h, List.all_cons, h2, List.all_nil, Bool.and_true]
set_option maxRecDepth 100000 in
set_option maxHeartbeats 8000000 in
theorem may_any (x : Rep) (lv : Value) (w : World) (hE : EX w) (hL : SRd lv x.2.1 w) (hll : x.2.1.length ≤ maxLen) :
    Calls Tryd.prog 16 #[repV x lv] w fun e w' => e = .returned (.bool (okR x)) ∧ Kept w w' := by
  unfold maxLen at hll
  obtain ⟨la, lc, rfl⟩ := hL.slice
  have K0 := Lib.hid ((Kept.refl w).alloc (.cells #[iV x.1, .slice la x.2.1.length lc, iV x.2.2.1, iV x.2.2.2.1, iV x.2.2.2.2] 25))
  have X0 := Lib.hid (R5.new w x (.slice la x.2.1.length lc))
  have E0 := Lib.hid (hE.kept K0.out)
  have L0 := Lib.hid (hL.kept K0.out)
  have HC := Lib.hid (fun w => isCode_any x.1 w)
  clear hE hL
  cases hc : okC x.1 with
  | false =>
    rw [hc] at HC
    have HZ := Lib.hid (okR_c hc)
    generalize okR x = z at *
    clear hc
    obtain ⟨x0, x1, x2, x3, x4⟩ := X0.out.cs
    go_enter Tryd.func16, Tryd.ntmps16
    go_upto_region 1 with (fail)
    generalize w.alloc (.cells #[iV x.1, .slice la x.2.1.length lc, iV x.2.2.1, iV x.2.2.2.1, iV x.2.2.2.2] 25) = W0 at *
    go_wp2_with fail
    refine (HC.out _).mono ?_
    rintro e w1 ⟨rfl, rfl⟩
    go_wp2
    go_ret
    exact ⟨by rw [HZ.out]; rfl, K0.out⟩
  | true =>
    rw [hc] at HC
    by_cases he : x.2.1 = []
    · have HZ := Lib.hid (okR_e he)
      have hlb : ((x.2.1.length : Int) == 0) = true := by rw [he]; rfl
      generalize okR x = z at *
      generalize x.2.1.length = N at *
      clear hc he
      obtain ⟨x0, x1, x2, x3, x4⟩ := X0.out.cs
      go_enter Tryd.func16, Tryd.ntmps16
      go_upto_region 1 with (fail)
      generalize w.alloc (.cells #[iV x.1, .slice la N lc, iV x.2.2.1, iV x.2.2.2.1, iV x.2.2.2.2] 25) = W0 at *
      go_wp2_with fail
      refine (HC.out _).mono ?_
      rintro e w1 ⟨rfl, rfl⟩
      go_wp2
      go_ret
      exact ⟨by rw [HZ.out]; rfl, K0.out⟩
    · have hpos := List.length_pos_iff.2 he
      have hlb : ((x.2.1.length : Int) == 0) = false := by rw [beq_eq_false_iff_ne]; omega
      by_cases hn : 100 < x.2.1.length
      · have HZ := Lib.hid (okR_n hn)
        have hnI : (100 : Int) < x.2.1.length := by omega
        generalize okR x = z at *
        generalize x.2.1.length = N at *
        clear hc he hpos hn
        obtain ⟨x0, x1, x2, x3, x4⟩ := X0.out.cs
        go_enter Tryd.func16, Tryd.ntmps16
        go_upto_region 1 with (fail)
        generalize w.alloc (.cells #[iV x.1, .slice la N lc, iV x.2.2.1, iV x.2.2.2.1, iV x.2.2.2.2] 25) = W0 at *
        go_wp2_with fail
        refine (HC.out _).mono ?_
        rintro e w1 ⟨rfl, rfl⟩
        go_wp2
        go_ret
        exact ⟨by rw [HZ.out]; rfl, K0.out⟩
      · have hnI : ¬ (100 : Int) < x.2.1.length := by omega
        have hn' : x.2.1.length ≤ 100 := by omega
        have HCo := Lib.hid hc
        obtain ⟨z, hz⟩ : ∃ z, z = okR x := ⟨_, rfl⟩
        have HZZ := Lib.hid hz
        rw [← hz]
        clear hz
        obtain ⟨ls, hls⟩ : ∃ ls, ls = x.2.1 := ⟨_, rfl⟩
        have HLS := Lib.hid hls
        rw [← hls] at X0 L0 K0 E0 hlb hnI hn' hpos ⊢
        clear hc he hn hll hls
        obtain ⟨x0, x1, x2, x3, x4⟩ := X0.out.cs
        go_enter Tryd.func16, Tryd.ntmps16
        go_upto_region 1 with (fail)
        generalize w.alloc (.cells #[iV x.1, .slice la ls.length lc, iV x.2.2.1, iV x.2.2.2.1, iV x.2.2.2.2] 25) = W0 at *
        go_wp2_with fail
        refine (HC.out _).mono ?_
        rintro e w1 ⟨rfl, rfl⟩
        go_wp2_with fail
        clear x0 x1 x2 x3 x4 hlb hnI
        obtain ⟨n, hnn⟩ : ∃ n, n = w.heap.size := ⟨_, rfl⟩
        rw [← hnn] at X0 ⊢
        clear hnn
        go_loopw [24] (fun v wr => ∃ k : Nat, k ≤ ls.length ∧ v = .int .i64 k ∧ Hid (Kept W0 wr) ∧ Hid ((ls.take k).all okT = true)) (fun v _ => ls.length - (intOf v).toNat)
        case atStart => exact ⟨0, Nat.zero_le _, rfl, Lib.hid (Kept.refl _), Lib.hid (by simp)⟩
        case round =>
          obtain ⟨k, hk, rfl, hK, hA⟩ := hrel
          by_cases hlt : k < ls.length
          · have hltI : (k : Int) < ls.length := by omega
            obtain ⟨t, ht⟩ : ∃ t, ls[k]? = some t := ⟨_, List.getElem?_eq_getElem hlt⟩
            obtain ⟨g, o, cp, hv, hcp, p0⟩ := (L0.out.kept hK.out).at ht
            injection hv with e1 _ e3
            subst e1 e3
            have hts : (ByteArray.mk t.toArray).size = t.length := List.size_toArray
            have HT := Lib.hid ht
            clear ht
            by_cases h5 : 506 < t.length
            · have h5I : (506 : Int) < t.length := by omega
              have HZ := Lib.hid (show z = false from HZZ.out.trans (okR_t (k := k) (by rw [← HLS.out]; exact HT.out) (okT_no (Or.inl h5))))
              clear h5
              go_wp2
              go_ret
              exact ⟨by rw [HZ.out]; rfl, K0.out.trans hK.out⟩
            · have h5I : ¬ (506 : Int) < t.length := by omega
              have HH := Lib.hid (has_any t wr (by omega))
              have HNO := Lib.hid (show ((13 : UInt8) ∈ t ∨ (10 : UInt8) ∈ t) → z = false from fun h => HZZ.out.trans (okR_t (k := k) (by rw [← HLS.out]; exact HT.out) (okT_no (Or.inr h))))
              have HYE := Lib.hid (show ¬ ((13 : UInt8) ∈ t ∨ (10 : UInt8) ∈ t) → (ls.take (k + 1)).all okT = true from fun h => all_step hA.out HT.out (okT_iff.2 ⟨by omega, fun e => h (Or.inl e), fun e => h (Or.inr e)⟩))
              clear h5
              by_cases hh : (13 : UInt8) ∈ t ∨ (10 : UInt8) ∈ t
              · rw [decide_eq_true hh] at HH
                have HZ := Lib.hid (HNO.out hh)
                clear hh HNO HYE
                go_wp2_with fail
                refine HH.out.mono ?_
                rintro e w2 ⟨rfl, k2⟩
                go_wp2
                go_ret
                exact ⟨by rw [HZ.out]; rfl, (K0.out.trans hK.out).trans k2⟩
              · rw [decide_eq_false hh] at HH
                have HZ := Lib.hid (HYE.out hh)
                clear hh HNO HYE
                go_wp2_with fail
                refine HH.out.mono ?_
                rintro e w2 ⟨rfl, k2⟩
                go_wp2
                go_roundw
                case rel => exact ⟨k + 1, hlt, by go_num, Lib.hid (hK.out.trans k2), HZ⟩
                case measure => simp [intOf]; omega
          · have hltI : ¬ (k : Int) < ls.length := by omega
            obtain ⟨j, hj⟩ : ∃ j, ls.length = j + 1 := ⟨ls.length - 1, by omega⟩
            obtain ⟨t, ht⟩ : ∃ t, ls[j]? = some t := ⟨_, List.getElem?_eq_getElem (by omega)⟩
            have hall : ls.all okT = true := by
              have := hA.out
              rwa [List.take_of_length_le (by omega)] at this
            have htl : okT t = true := List.all_eq_true.1 hall t (List.mem_of_getElem? ht)
            have HZ := Lib.hid (show z = decide (x.2.2 = enh x.1 t) from HZZ.out.trans (okR_m HCo.out (by rw [← HLS.out]; exact hj) (by rw [← HLS.out]; exact hn') (by rw [← HLS.out]; exact hall) (by rw [← HLS.out]; exact ht)))
            have htl2 := (okT_iff.1 htl).1
            have HEN := Lib.hid (fun w hE hL => enhanced_any x (.slice la ls.length lc) t j w hE hL (by rw [← HLS.out]; exact hj) (by omega) HCo.out (by rw [← HLS.out]; exact ht) (by omega))
            have K1 := Lib.hid (K0.out.trans hK.out)
            have X1 := Lib.hid (X0.out.kept hK.out)
            have E1 := Lib.hid (E0.out.kept hK.out)
            have L1 := Lib.hid (show SRd (.slice la ls.length lc) x.2.1 wr by rw [← HLS.out]; exact L0.out.kept hK.out)
            have hq := eql_m3 x.2.2 (enh x.1 t)
            generalize enh x.1 t = M at *
            clear hall htl htl2 ht hj hA
            go_upto_region 9 with (fail)
            have K2 := Lib.hid (K1.out.drew)
            have X2 := Lib.hid (X1.out.kept ((Kept.refl wr).drew))
            have hS := X2.out.cs
            refine wp_region_held_drew (S := fun y => y.cell? ⟨n, 0, none⟩ = some (iV x.1) ∧ y.cell? ⟨n, 1, none⟩ = some (.slice la ls.length lc) ∧ y.cell? ⟨n, 2, none⟩ = some (iV x.2.2.1) ∧ y.cell? ⟨n, 3, none⟩ = some (iV x.2.2.2.1) ∧ y.cell? ⟨n, 4, none⟩ = some (iV x.2.2.2.2)) (by kernel_rfl) hS (fun hS0 => ?_)
            refine wpAnyH_take (i := 0) (oi := { dst := some 36, op := Go.Op.fieldAddr 25 (Go.Operand.tmp 1) 2, type := 0, pos := "reply.go:91", after := #[], guard := none }) (v := ?vm0) rfl (by kernel_rfl) (by kernel_rfl) (by kernel_rfl) (fun _ _ _ h => h) (Or.inl ⟨by rfl, ?ym0⟩) (by assumption) ?rm0
            case ym0 => (intro wq hSw; (try dsimp only at hSw); go_simp; try with_reducible rfl)
            simp only [Act.put, List.setIfInBounds_toArray, List.set_cons_zero, List.set_cons_succ]
            refine wpAnyH_take (i := 1) (oi := { dst := some 37, op := Go.Op.load 23 (Go.Operand.tmp 36), type := 23, pos := "reply.go:91", after := #[{ on := 0, ground := Go.Ground.data }], guard := none }) (v := ?vm1) rfl (by kernel_rfl) (by kernel_rfl) (by kernel_rfl) (fun _ _ _ h => h) (Or.inl ⟨by rfl, ?ym1⟩) (by assumption) ?rm1
            case ym1 => (intro wq hSw; (try dsimp only at hSw); go_simp; try with_reducible rfl)
            simp only [Act.put, List.setIfInBounds_toArray, List.set_cons_zero, List.set_cons_succ]
            refine wpAnyH_take (i := 2) (oi := { dst := some 38, op := Go.Op.load 25 (Go.Operand.tmp 1), type := 25, pos := "reply.go:91", after := #[], guard := none }) (v := ?vm2) rfl (by kernel_rfl) (by kernel_rfl) (by kernel_rfl) (fun _ _ _ h => h) (Or.inl ⟨by rfl, ?ym2⟩) (by assumption) ?rm2
            case ym2 => (intro wq hSw; (try dsimp only at hSw); go_simp; try with_reducible rfl)
            simp only [Act.put, List.setIfInBounds_toArray, List.set_cons_zero, List.set_cons_succ]
            refine wpAnyH_ready (rs := [3]) (by kernel_rfl) (by simp) (AllReadyH.cons (o := { dst := some 39, op := Go.Op.call { callee := Go.Callee.value (Go.Operand.func 30), args := #[Go.Operand.tmp 38], argTypes := #[25] }, type := 23, pos := "reply.go:91", after := #[{ on := 2, ground := Go.Ground.data }], guard := none }) rfl (fun K hK => ?_) AllReadyH.nil)
            go_simp
            refine (HEN.out _ (E1.out.kept ((Kept.refl wr).drew)) (L1.out.kept ((Kept.refl wr).drew))).mono ?_
            rintro e w3 ⟨rfl, k3⟩
            have K3 := Lib.hid (K2.out.trans k3)
            refine Shut.out hK _ _ (X2.out.kept k3).cs (fun hSb => ?_)
            clear hK K
            try simp only [Act.put, List.setIfInBounds_toArray, List.set_cons_zero, List.set_cons_succ]
            refine wpAnyH_take (i := 4) (oi := { dst := some 40, op := Go.Op.binOp Go.BinOp.eql 23 (Go.Operand.tmp 37) (Go.Operand.tmp 39) 23, type := 4, pos := "reply.go:91", after := #[{ on := 1, ground := Go.Ground.data }, { on := 3, ground := Go.Ground.data }], guard := none }) (v := ?vm4) rfl (by kernel_rfl) (by kernel_rfl) (by kernel_rfl) (fun _ _ _ h => h) (Or.inl ⟨by rfl, ?ym4⟩) (by assumption) ?rm4
            case ym4 => (intro wq hSw; (try dsimp only at hSw); have hq' := hq wq; go_simp; try with_reducible rfl)
            simp only [Act.put, List.setIfInBounds_toArray, List.set_cons_zero, List.set_cons_succ]
            refine wpAnyH_take (i := 5) (oi := { dst := some 2, op := Go.Op.assign (Go.Operand.tmp 40), type := 4, pos := "reply.go:91", after := #[{ on := 4, ground := Go.Ground.data }, { on := 3, ground := Go.Ground.chain }, { on := 0, ground := Go.Ground.phase }, { on := 1, ground := Go.Ground.phase }, { on := 2, ground := Go.Ground.phase }, { on := 3, ground := Go.Ground.phase }, { on := 4, ground := Go.Ground.phase }], guard := none }) (v := ?vm5) rfl (by kernel_rfl) (by kernel_rfl) (by kernel_rfl) (fun _ _ _ h => h) (Or.inl ⟨by rfl, ?ym5⟩) (by assumption) ?rm5
            case ym5 => (intro wq hSw; (try dsimp only at hSw); go_simp; try with_reducible rfl)
            simp only [Act.put, List.setIfInBounds_toArray, List.set_cons_zero, List.set_cons_succ]
            refine wpAnyH_done (by kernel_rfl) ?_ _
            clear hS hS0 hSb
            go_wp2
            go_ret
            exact ⟨by rw [HZ.out]; rfl, K3.out⟩
end Go.Proofs.YtdfmnjoklehifaaDoor.Bk.Rp
