/- Package reply: an answer is whole; New, Bad, Left. -/
import Derived.Test.YtdfmnjoklehifaaDoorRpP
set_option linter.unusedSimpArgs false
set_option linter.unusedVariables false
namespace Go.Proofs.YtdfmnjoklehifaaDoor.Bk.Rp
open Go.ChangeShapes Go.WideShapes Go.ChangeAt Go.RowKit Go.Shelf
theorem R5.setM {b : Nat} {x : Rep} {lv : Value} {w : World} (h : R5 b x lv w) (m : M3) : R5 b (x.1, x.2.1, m) lv (((w.setCell ⟨b, 2, none⟩ (iV m.1)).setCell ⟨b, 3, none⟩ (iV m.2.1)).setCell ⟨b, 4, none⟩ (iV m.2.2)) := by
  unfold R5 at h ⊢; simp [World.setCell, Array.getElem?_modify, h]
theorem R5.setAll {b : Nat} {x : Rep} {lv : Value} {w : World} (h : R5 b x lv w) (y : Rep) (yv : Value) : R5 b y yv (((((w.setCell ⟨b, 0, none⟩ (iV y.1)).setCell ⟨b, 1, none⟩ yv).setCell ⟨b, 2, none⟩ (iV y.2.2.1)).setCell ⟨b, 3, none⟩ (iV y.2.2.2.1)).setCell ⟨b, 4, none⟩ (iV y.2.2.2.2)) := by
  unfold R5 at h ⊢; simp [World.setCell, Array.getElem?_modify, h]
theorem RdB.zero {b : Nat} {bad : Bool} {c : Int} {lv : Value} {r : B} {w : World} (h : RdB b bad c lv r w) : RdB b bad 0 (.slice none 0 0) r (((((w.setCell ⟨b, 1, none⟩ (iV 0)).setCell ⟨b, 2, none⟩ (.slice none 0 0)).setCell ⟨b, 3, none⟩ (iV 0)).setCell ⟨b, 4, none⟩ (iV 0)).setCell ⟨b, 5, none⟩ (iV 0)) := by
  unfold RdB at h ⊢; simp [World.setCell, Array.getElem?_modify, h]
set_option maxRecDepth 100000 in
theorem wh_res (tmps : Array Value) (W : World) (b : Nat) {x : Rep} {lv : Value} (h : R5 b x lv W) (hp : tmps.getD 2 undef = pV b) : (results Tryd.f34 tmps).run Tryd.prog W = .ok (repV x lv) W :=
  results_cell_row Tryd.results34 tmps W b 25 _ (0, 0) _ hp h Tryd.underlying25 rfl (by kernel_rfl)
set_option maxRecDepth 100000 in
set_option maxHeartbeats 4000000 in
theorem whole_any (D b k : Nat) (c : Int) (ls : List B) (lv : Value) (r t : B) (w : World) (hE : EX w) (h : RdB b false c lv r w) (hO : OwnS D lv ls w) (hb : 8 ≤ b) (hk : ls.length = k + 1) (hk2 : k ≤ 1000) (hc : okC c = true) (ht : ls[k]? = some t) (hl : t.length ≤ 1000000) :
    Calls Tryd.prog 34 #[pV b] w fun e w' => e = .returned (repV (c, ls, enh c t) lv) ∧ RdB b false 0 (.slice none 0 0) r w' ∧ Ex (fun k => k = b) w w' := by
  have HEN := Lib.hid (fun w hE hL => enhanced_any (c, ls, (0, 0, 0)) lv t k w hE hL hk hk2 hc ht hl)
  obtain ⟨la, lc, rfl⟩ := own_slice hO
  have K0 := ((Kept.refl w).alloc (.cells #[iV 0, .slice none 0 0, iV 0, iV 0, iV 0] 25)).alloc (.cells #[iV c, .slice la ls.length lc, iV 0, iV 0, iV 0] 25)
  have X0 := (R5.new w (0, [], (0, 0, 0)) (.slice none 0 0)).kept ((Kept.refl _).alloc (.cells #[iV c, .slice la ls.length lc, iV 0, iV 0, iV 0] 25))
  have Y0 := R5.new (w.alloc (.cells #[iV 0, .slice none 0 0, iV 0, iV 0, iV 0] 25)) (c, ls, (0, 0, 0)) (.slice la ls.length lc)
  simp only [World.size_alloc] at Y0
  obtain ⟨c0, c1, c2, c3, c4, c5, c6⟩ := (h.kept ((Kept.refl w).alloc (.cells #[iV 0, .slice none 0 0, iV 0, iV 0, iV 0] 25))).cs
  have hbl := h.lt
  have R0 := Lib.hid (h.kept K0)
  have S0 := Lib.hid ((OwnS.rd hO).kept K0)
  have E0 := Lib.hid (hE.kept K0)
  clear h hO hE hk ht hl hc
  generalize enh c t = M at *
  go_enter Tryd.func34, Tryd.ntmps34
  go_upto_region 2 with (fail)
  generalize (w.alloc (.cells #[iV 0, .slice none 0 0, iV 0, iV 0, iV 0] 25)).alloc (.cells #[iV c, .slice la ls.length lc, iV 0, iV 0, iV 0] 25) = W0 at *
  obtain ⟨n, hn⟩ : ∃ n, n = w.heap.size := ⟨_, rfl⟩
  have HN := Lib.hid hn
  rw [← hn] at X0 Y0 hbl ⊢
  clear hn c0 c1 c2 c3 c4 c5 c6
  have HK := Lib.hid K0
  have X1 := Lib.hid X0
  obtain ⟨y0, y1, y2, y3, y4⟩ := Y0.cs
  have Y1 := Lib.hid Y0
  clear K0 X0 Y0
  go_wp2_with fail
  refine (HEN.out W0 E0.out S0.out).mono ?_
  rintro e w1 ⟨rfl, k1⟩
  have X2 := Lib.hid (X1.out.kept k1)
  have Y2 := Lib.hid (Y1.out.kept k1)
  have R2 := Lib.hid (R0.out.kept k1)
  have E2 := Lib.hid (show Ex (fun k => k = b) w w1 from Ex.of (HK.out.trans k1))
  clear k1 X1 Y1 R0 HK y0 y1 y2 y3 y4 HEN E0 S0
  obtain ⟨m0, m1, m2⟩ := M
  obtain ⟨y0, y1, y2, y3, y4⟩ := Y2.out.cs
  have fy := Y2.out.frz
  have Y3 := Lib.hid (Y2.out.setM (m0, m1, m2))
  have X3 := Lib.hid (((X2.out.other (show n ≠ n + 1 by omega) 2 (iV m0)).other (show n ≠ n + 1 by omega) 3 (iV m1)).other (show n ≠ n + 1 by omega) 4 (iV m2))
  have R3 := Lib.hid (((R2.out.other (show b ≠ n + 1 by omega) 2 (iV m0)).other (show b ≠ n + 1 by omega) 3 (iV m1)).other (show b ≠ n + 1 by omega) 4 (iV m2))
  have E3 := Lib.hid (show Ex (fun k => k = b) w (((w1.setCell ⟨n + 1, 2, none⟩ (iV m0)).setCell ⟨n + 1, 3, none⟩ (iV m1)).setCell ⟨n + 1, 4, none⟩ (iV m2)) from
    ⟨E2.out.os, E2.out.tape, E2.out.output, by simpa [World.setCell] using E2.out.size, fun k hk hp => by
      have := HN.out
      rw [Below.heap_setCell _ _ _ _ (show k ≠ n + 1 by omega), Below.heap_setCell _ _ _ _ (show k ≠ n + 1 by omega), Below.heap_setCell _ _ _ _ (show k ≠ n + 1 by omega)]
      exact E2.out.block k hk hp⟩)
  clear X2 Y2 R2 E2
  go_upto_region 3 with (fail)
  generalize ((w1.setCell ⟨n + 1, 2, none⟩ (iV m0)).setCell ⟨n + 1, 3, none⟩ (iV m1)).setCell ⟨n + 1, 4, none⟩ (iV m2) = w3 at *
  clear y0 y1 y2 y3 y4 fy
  obtain ⟨c0, c1, c2, c3, c4, c5, c6⟩ := R3.out.cs
  have fr := R3.out.frz
  have R4 := Lib.hid R3.out.zero
  have hnb : n ≠ b := by omega
  have hnb' : n + 1 ≠ b := by omega
  have Y4 := Lib.hid (((((Y3.out.other hnb' 1 (iV 0)).other hnb' 2 (.slice none 0 0)).other hnb' 3 (iV 0)).other hnb' 4 (iV 0)).other hnb' 5 (iV 0))
  have X4 := Lib.hid (((((X3.out.other hnb 1 (iV 0)).other hnb 2 (.slice none 0 0)).other hnb 3 (iV 0)).other hnb 4 (iV 0)).other hnb 5 (iV 0))
  have E4 := Lib.hid (((((E3.out.set rfl 1 (iV 0)).set rfl 2 (.slice none 0 0)).set rfl 3 (iV 0)).set rfl 4 (iV 0)).set rfl 5 (iV 0))
  clear R3 Y3 X3 E3
  go_upto_region 4 with (fail)
  generalize ((((w3.setCell ⟨b, 1, none⟩ (iV 0)).setCell ⟨b, 2, none⟩ (.slice none 0 0)).setCell ⟨b, 3, none⟩ (iV 0)).setCell ⟨b, 4, none⟩ (iV 0)).setCell ⟨b, 5, none⟩ (iV 0) = w4 at *
  clear c0 c1 c2 c3 c4 c5 c6 fr
  obtain ⟨y0, y1, y2, y3, y4⟩ := Y4.out.cs
  obtain ⟨x0, x1, x2, x3, x4⟩ := X4.out.cs
  have fx := X4.out.frz
  have X5 := Lib.hid (X4.out.setAll (c, ls, (m0, m1, m2)) (.slice la ls.length lc))
  have R5' := Lib.hid (((((R4.out.other (show b ≠ n by omega) 0 (iV c)).other (show b ≠ n by omega) 1 (.slice la ls.length lc)).other (show b ≠ n by omega) 2 (iV m0)).other (show b ≠ n by omega) 3 (iV m1)).other (show b ≠ n by omega) 4 (iV m2))
  have E5 := Lib.hid (show Ex (fun k => k = b) w (((((w4.setCell ⟨n, 0, none⟩ (iV c)).setCell ⟨n, 1, none⟩ (.slice la ls.length lc)).setCell ⟨n, 2, none⟩ (iV m0)).setCell ⟨n, 3, none⟩ (iV m1)).setCell ⟨n, 4, none⟩ (iV m2)) from
    ⟨E4.out.os, E4.out.tape, E4.out.output, by simpa [World.setCell] using E4.out.size, fun k hk hp => by
      have := HN.out
      rw [Below.heap_setCell _ _ _ _ (show k ≠ n by omega), Below.heap_setCell _ _ _ _ (show k ≠ n by omega), Below.heap_setCell _ _ _ _ (show k ≠ n by omega), Below.heap_setCell _ _ _ _ (show k ≠ n by omega), Below.heap_setCell _ _ _ _ (show k ≠ n by omega)]
      exact E4.out.block k hk hp⟩)
  clear X4 R4 E4 Y4
  go_wp2
  exact bodyPost_ret (wh_res _ _ n X5.out rfl) rfl ⟨rfl, R5'.out, E5.out⟩
set_option maxRecDepth 100000 in
theorem new_any (w : World) : Calls Tryd.prog 17 #[] w fun e w' => e = .returned (pV w.heap.size) ∧ RdB w.heap.size false 0 (.slice none 0 0) [] w' ∧ Kept w w' ∧ w'.heap.size = w.heap.size + 1 := by
  have K0 := (Kept.refl w).alloc (.cells #[.bool false, iV 0, .slice none 0 0, iV 0, iV 0, iV 0, sV []] 59)
  have R0 : RdB w.heap.size false 0 (.slice none 0 0) [] (w.alloc (.cells #[.bool false, iV 0, .slice none 0 0, iV 0, iV 0, iV 0, sV []] 59)) := World.alloc_heap_new w _
  go_enter Tryd.func17, Tryd.ntmps17
  go_wp2
  go_ret
  exact ⟨rfl, R0, K0, by simp⟩
set_option maxRecDepth 100000 in
theorem bad_any (b : Nat) (bad : Bool) (c : Int) (lv : Value) (r : B) (w : World) (h : RdB b bad c lv r w) : Calls Tryd.prog 20 #[pV b] w fun e w' => e = .returned (.bool bad) ∧ w = w' := by
  obtain ⟨c0, c1, c2, c3, c4, c5, c6⟩ := h.cs
  clear h c1 c2 c3 c4 c5 c6
  go_enter Tryd.func20, Tryd.ntmps20
  go_wp2
  go_ret
  exact ⟨rfl, rfl⟩
set_option maxRecDepth 100000 in
theorem bad_nil (w : World) : Calls Tryd.prog 20 #[.pointer none] w fun e w' => e = .returned (.bool true) ∧ w = w' := by
  go_enter Tryd.func20, Tryd.ntmps20
  go_wp2
  go_ret
  exact ⟨rfl, rfl⟩
set_option maxRecDepth 100000 in
theorem left_nil (w : World) : Calls Tryd.prog 21 #[.pointer none] w fun e w' => e = .returned (iV 0) ∧ w = w' := by
  go_enter Tryd.func21, Tryd.ntmps21
  go_wp2
  go_ret
  exact ⟨rfl, rfl⟩
theorem sumL_snoc (l : List B) (t : B) : sumL (l ++ [t]) = sumL l + (6 + t.length) := by rw [sumL_app]; simp [sumL]
theorem sumL_le {l : List B} (h : ∀ t ∈ l, okT t = true) : sumL l ≤ 512 * l.length := by
  induction l with
  | nil => simp [sumL]
  | cons t l ih =>
    have h1 := (okT_iff.1 (h t (by simp))).1
    have h2 := ih (fun x hx => h x (by simp [hx]))
    rw [sumL, List.length_cons]; omega
theorem sumL_take (l : List B) (k : Nat) : sumL (l.take k) ≤ sumL l := by
  have := sumL_app (l.take k) (l.drop k)
  rw [List.take_append_drop] at this
  omega
set_option maxRecDepth 100000 in
set_option maxHeartbeats 2000000 in
theorem left_any (b : Nat) (bad : Bool) (c : Int) (lv : Value) (ls : List B) (r : B) (w : World) (h : RdB b bad c lv r w) (hL : SRd lv ls w) (hl : sumL ls + r.length ≤ 1000000000) (hll : ls.length ≤ 1000000) :
    Calls Tryd.prog 21 #[pV b] w fun e w' => e = .returned (iV ((sumL ls + r.length : Nat) : Int)) ∧ w = w' := by
  obtain ⟨la, lc, rfl⟩ := hL.slice
  obtain ⟨c0, c1, c2, c3, c4, c5, c6⟩ := h.cs
  have hsz : (ByteArray.mk r.toArray).size = r.length := List.size_toArray
  have HL := Lib.hid hL
  obtain ⟨N, hN⟩ : ∃ N, N = sumL ls + r.length := ⟨_, rfl⟩
  have HN := Lib.hid hN
  rw [← hN]
  clear h c0 c1 c3 c4 c5 hL hN
  go_enter Tryd.func21, Tryd.ntmps21
  go_wp2_with fail
  clear c2 c6
  go_loopw [3, 19] (fun a v wr => ∃ k : Nat, k ≤ ls.length ∧ v = .int .i64 k ∧ a = .int .i64 ((r.length + sumL (ls.take k) : Nat) : Int) ∧ wr = w) (fun _ v _ => ls.length - (intOf v).toNat)
  case atStart => exact ⟨0, Nat.zero_le _, rfl, by simp [sumL], rfl⟩
  case round =>
    obtain ⟨k, hk, rfl, rfl, rfl⟩ := hrel
    by_cases hlt : k < ls.length
    · have hltI : (k : Int) < ls.length := by omega
      obtain ⟨t, ht⟩ : ∃ t, ls[k]? = some t := ⟨_, List.getElem?_eq_getElem hlt⟩
      obtain ⟨g, o, cp, hv, hcp, p0⟩ := HL.out.at ht
      injection hv with e1 _ e3
      subst e1 e3
      have hts : (ByteArray.mk t.toArray).size = t.length := List.size_toArray
      have HT := Lib.hid (show r.length + sumL (ls.take (k + 1)) = r.length + sumL (ls.take k) + (6 + t.length) by
        rw [List.take_add_one, ht]
        simp only [Option.toList_some]
        rw [sumL_snoc]; omega)
      have hb1 := sumL_take ls k
      have hb2 := sumL_take ls (k + 1)
      have hbt : r.length + sumL (ls.take k) + (6 + t.length) ≤ 1000000000 := by have := HT.out; omega
      clear ht hb1 hb2
      generalize r.length + sumL (ls.take k) = q at *
      go_wp2
      go_roundw
      case rel => exact ⟨k + 1, hlt, by go_num, by rw [HT.out]; go_num, by first | rfl | exact trivial⟩
      case measure => simp [intOf]; omega
    · have hltI : ¬ (k : Int) < ls.length := by omega
      have HZ := Lib.hid (show r.length + sumL (ls.take k) = N by rw [List.take_of_length_le (by omega), HN.out]; omega)
      generalize r.length + sumL (ls.take k) = q at *
      go_wp2
      go_ret
      exact ⟨by rw [HZ.out]; rfl, by first | rfl | exact trivial⟩
end Go.Proofs.YtdfmnjoklehifaaDoor.Bk.Rp
