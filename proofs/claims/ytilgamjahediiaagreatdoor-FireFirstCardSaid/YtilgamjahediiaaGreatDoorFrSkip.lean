/- Contracts of package fire: whether a schedule fires for what is skipped; whether it fires. -/
import Derived.Test.YtilgamjahediiaaGreatDoorFrI
import Derived.Test.YtilgamjahediiaaGreatDoorFrG
set_option linter.unusedVariables false
namespace Go.Proofs.YtilgamjahediiaaGreatDoor
open Go.ChangeShapes Go.WideShapes Go.ChangeAt Go.RowKit Go.Shelf
open Civ Zn Lc Crn
attribute [local go_sem] Oper.semAt_some
/-- a Bool in a block of its own -/
def Bb6 (b : Nat) (v : Bool) (x : World) : Prop := x.heap[b]? = some (.cells #[.bool v] 4)
theorem Bb6.lt {b : Nat} {v : Bool} {x : World} (h : Bb6 b v x) : b < x.heap.size := (Array.getElem?_eq_some_iff.1 h).1
theorem Bb6.c {b : Nat} {v : Bool} {x : World} (h : Bb6 b v x) : x.cell? ⟨b, 0, none⟩ = some (.bool v) := cell_of h rfl
theorem Bb6.frz {b : Nat} {v : Bool} {x : World} (h : Bb6 b v x) : x.frozen? ⟨b, 0, none⟩ = false := by unfold Bb6 at h; simp [World.frozen?, h]
theorem Bb6.put {b : Nat} {v : Bool} {x : World} (h : Bb6 b v x) (u : Bool) : Bb6 b u (x.setCell ⟨b, 0, none⟩ (.bool u)) := by
  unfold Bb6 at h ⊢
  simp [World.setCell, Array.getElem?_modify, h]
theorem Bb6.kept {b : Nat} {v : Bool} {x y : World} (h : Bb6 b v x) (k : Kept x y) : Bb6 b v y := (k.block _ h.lt).trans h
theorem TCap.save {w0 : World} {c : CR} {sl : Nat → Value} {a b : Int} {f g h : Nat} {A B : World} {M : Nat → Prop} (q : TCap w0 c sl a b f g h A) (v : Save M A B) (h0 : ∀ k, M k → w0.heap.size ≤ k) (h1 : ¬ M f) (h2 : ¬ M g) (h3 : ¬ M h) : TCap w0 c sl a b f g h B := by
  have hs := q.k.size
  exact ⟨⟨v.os.trans q.k.os, v.output.trans q.k.output, Nat.le_trans hs v.size, fun k hk => (v.block k (by omega) (fun e => by have := h0 k e; omega)).trans (q.k.block k hk), v.tape.trans q.k.tape⟩, q.f.save v h1, q.g.save v h2, q.h.save v h3⟩
theorem Bb6.save {b : Nat} {v : Bool} {A B : World} {M : Nat → Prop} (h : Bb6 b v A) (k : Save M A B) (hm : ¬ M b) : Bb6 b v B := k.at h hm
theorem World.setCell_other_block {V : World} {D : Nat} {o : Obj} {p : Addr} {v : Value} (h : V.heap[D]? = some o) (hp : p.block ≠ D) : (V.setCell p v).heap[D]? = some o :=
  (Below.heap_setCell V p v D (fun e => hp e.symm)).trans h
def skG (z : Zo) (t : Int) : Prop := gYes z t ∧ inCal (t + oA z (t - 1))
open Classical in
noncomputable def skB (z : Zo) (t : Int) : Int := if skG z t then t + oA z (t - 1) else 0
open Classical in
noncomputable def skE (z : Zo) (t : Int) : Int := if skG z t then 0 else 1
theorem ofGap_any (z : Zo) (t : Int) (w : World) : Calls Tryz.prog 40 #[sixV (gC z t)] w fun e w' => e = .returned (.tuple #[.int .i64 (skB z t), .int .i64 (skE z t)]) ∧ Kept w w' := by
  unfold skB skE
  by_cases h : skG z t
  · rw [if_pos h, if_pos h]
    obtain ⟨h1, h2⟩ := h
    have hC : gC z t = seS (t + oA z (t - 1)) := by unfold gC; rw [if_pos h1]
    rw [hC]
    generalize t + oA z (t - 1) = T at *
    have hD := day_n (T / 86400) w (by unfold inCal at h2; omega) (by unfold inCal at h2; omega)
    unfold seS
    rw [if_pos h2]
    have := of_yes (yr (T / 86400)) (mo (T / 86400)) (dy (T / 86400)) (T % 86400 / 3600) (T % 3600 / 60) (T % 60) w hD.1 (tm_at T)
    rw [sec_at T hD] at this
    exact this
  · rw [if_neg h, if_neg h]
    have hC : gC z t = six0 := by
      unfold gC
      by_cases q : gYes z t
      · rw [if_pos q]
        exact (seS_out (fun r => h ⟨q, r⟩)).1
      · rw [if_neg q]
    rw [hC]
    exact of_not 0 0 0 0 0 0 w (fun q => by have := q.1.1; omega)
set_option maxRecDepth 100000 in
set_option maxHeartbeats 8000000 in
theorem forSkipped_any (z : Zo) (c : CR) (sl : Nat → Value) (t : Int) (w : World) (hc : Cr w sl c.L) (hm : mayC c = true) (hz : mayZ z = true) (t1 : 1 ≤ t) (t2 : t ≤ 253402214400) : Calls Tryz.prog 38 #[zoV z, crV sl c.st, .int .i64 t] w fun e w' => e = .returned (.bool (decide (gN z t ≠ 0) && skP c (t + oA z (t - 1)) (gN z t))) ∧ Kept w w' := by
  have HSK := Lib.hid (@sk_gap z c t t1 t2 hz)
  have HCR := Lib.hid hc; have HMC := Lib.hid hm
  obtain ⟨o1, o2⟩ := oA_bd z (t - 1)
  obtain ⟨n1, n2⟩ := gN_bd z t
  generalize hR : (decide (gN z t ≠ 0) && skP c (t + oA z (t - 1)) (gN z t)) = R at *
  clear hc hm hz hR
  have k0 := (Kept.refl w).alloc (.cells (zo15 z.std z.off z.has z.dst z.ahead z.fr.k z.fr.m z.fr.w z.fr.d z.fr.a z.to.k z.to.m z.to.w z.to.d z.to.a) 25)
  have b0 := bz_new w z
  refine (callsIn_wide (n := 9)).1 ?_
  refine callsIn_of_wp_marks Tryz.func38 rfl trivial ?_ rfl
  simp only [Tryz.ntmps38, List.size_toArray, List.length_cons, List.length_nil, Nat.reduceAdd, Nat.reduceSub, Array.replicate_succ, Array.replicate_zero, List.push_toArray, List.append_toArray, List.nil_append, List.cons_append]
  gi_upto_region 1 with (fail)
  generalize hx : w.alloc (.cells (zo15 z.std z.off z.has z.dst z.ahead z.fr.k z.fr.m z.fr.w z.fr.d z.fr.a z.to.k z.to.m z.to.w z.to.d z.to.a) 25) = x at *
  have s1 : x.heap.size = w.heap.size + 1 := by rw [← hx]; simp
  clear hx
  have c1 : Cb (w.heap.size + 1) sl c.st (x.alloc (.cells (cr10 sl c.st) 30)) := by rw [← s1]; exact Cb.new sl c.st x
  have k1 := (Kept.refl x).alloc (.cells (cr10 sl c.st) 30)
  generalize hy : x.alloc (.cells (cr10 sl c.st) 30) = y at *
  have s2 : y.heap.size = w.heap.size + 1 + 1 := by rw [← hy]; simp [s1]
  clear hy
  have r2 : Bb6 (w.heap.size + 1 + 1) false (y.alloc (.cells #[.bool false] 4)) := by rw [← s2]; exact new_block y _
  have k2 := (Kept.refl y).alloc (.cells #[.bool false] 4)
  generalize y.alloc (.cells #[.bool false] 4) = X at *
  have ZX := Lib.hid ((b0.kept k1).kept k2); have BX := Lib.hid (c1.kept k2); have RX := Lib.hid r2; have KX := Lib.hid ((k0.trans k1).trans k2)
  clear b0 k0 k1 c1 s1 s2 r2 k2 x y
  have c0 := ZX.out.cs.c0
  have c1 := ZX.out.cs.c1
  have c2 := ZX.out.cs.c2
  have c3 := ZX.out.cs.c3
  have c4 := ZX.out.cs.c4
  have c5 := ZX.out.cs.c5
  have c6 := ZX.out.cs.c6
  have c7 := ZX.out.cs.c7
  have c8 := ZX.out.cs.c8
  have c9 := ZX.out.cs.c9
  have c10 := ZX.out.cs.c10
  have c11 := ZX.out.cs.c11
  have c12 := ZX.out.cs.c12
  have c13 := ZX.out.cs.c13
  have c14 := ZX.out.cs.c14
  gi_upto_region 2 with (refine ⟨trivial, ?_⟩; gi_at_call 12; refine (callsIn_wide.2 (gap_any z t _ (by omega) (by omega))).mono ?_; rintro e x1 ⟨rfl, k1⟩)
  have D1 := Bs.new x1 (gC z t)
  have k2 := k1.trans ((Kept.refl x1).alloc (.cells #[.int .i64 (gC z t).y, .int .i64 (gC z t).m, .int .i64 (gC z t).d, .int .i64 (gC z t).h, .int .i64 (gC z t).i, .int .i64 (gC z t).s] 34))
  generalize x1.alloc (.cells #[.int .i64 (gC z t).y, .int .i64 (gC z t).m, .int .i64 (gC z t).d, .int .i64 (gC z t).h, .int .i64 (gC z t).i, .int .i64 (gC z t).s] 34) = x2 at *
  generalize x1.heap.size = D at *
  have B2 := Lib.hid (BX.out.kept k2); have R2 := Lib.hid (RX.out.kept k2); have K2 := Lib.hid (KX.out.trans k2)
  obtain ⟨u0, u1, u2, u3, u4, u5⟩ := D1.cells
  clear c0 c1 c2 c3 c4 c5 c6 c7 c8 c9 c10 c11 c12 c13 c14 k1 k2 ZX BX RX KX D1
  gi_upto_region 3 with (refine ⟨trivial, ?_⟩; gi_at_call 40; refine (callsIn_wide.2 (ofGap_any z t _)).mono ?_; rintro e x3 ⟨rfl, k3⟩)
  have B3 := Lib.hid (B2.out.kept k3); have R3 := Lib.hid (R2.out.kept k3); have K3 := Lib.hid (K2.out.trans k3)
  clear u0 u1 u2 u3 u4 u5 k3 B2 R2 K2
  by_cases hG : skG z t
  · have he : skE z t = 0 := by unfold skE; rw [if_pos hG]
    have hb : skB z t = t + oA z (t - 1) := by unfold skB; rw [if_pos hG]
    obtain ⟨g1, g2⟩ := hG
    have HIN := Lib.hid g2
    have HEX := Lib.hid (show R = true ↔ ∃ x, t + oA z (t - 1) ≤ x ∧ x ≤ t + oA z (t - 1) + gN z t - 1 ∧ slot c x = true from ⟨fun q => (HSK.out.1 q).2.2, fun q => HSK.out.2 ⟨g1, g2, q⟩⟩)
    have gn1 : 1 ≤ gN z t := by unfold gN; rw [if_pos g1]; have := g1.2; omega
    clear HSK g1 g2
    generalize skE z t = se at *
    generalize skB z t = T at *
    rw [← hb] at HEX HIN
    have hT : -90000 ≤ T ∧ T ≤ 253402400000 := by omega
    subst he
    clear hb
    generalize gN z t = gn at *
    obtain ⟨e0, e1, e2, e3, e4, e5, e6, e7, e8, e9⟩ := cells10 B3.out
    gi_wp2_with (refine ⟨trivial, ?_⟩; gi_at_call 72; refine (callsIn_wide.2 (times_any c sl T (T + gn - 1) _)).mono ?_; rintro e x4 ⟨f, g, h, rfl, Bf, Bg, Bh, k4, f1, g1, h1⟩)
    have K4 := Lib.hid (K3.out.trans k4); have R4 := Lib.hid (R3.out.kept k4)
    have hlt := R3.out.lt
    have hlt4 := R4.out.lt
    have l1 := Bf.lt; have l2 := Bg.lt; have l3 := Bh.lt
    clear e0 e1 e2 e3 e4 e5 e6 e7 e8 e9 k4 B3 R3 K3
    refine range_itr (n := 9) (gf := 94) (lb := #[.pointer (some ⟨f, 0, none⟩), .pointer (some ⟨g, 0, none⟩), .pointer (some ⟨h, 0, none⟩)]) rfl (enters_of Tryz.func94 (by kernel_rfl) rfl)
      (times_itr c sl T (T + gn - 1) f g h w HCR.out HMC.out (by omega) (by omega) (by omega) (by omega)) (fun s arr s' hs => by obtain ⟨_, _, _, _, _, _, rfl, _⟩ := hs; rfl)
      (fun k => k = w.heap.size + 1 + 1) (fun k hk => by omega) ⟨K4.out, Bf, Bg, Bh⟩
      (fun A B v q => q.save v (fun k hk => by have := K4.out.size; omega) (by omega) (by omega) (by omega))
      (fun s V => s = T ∧ Bb6 (w.heap.size + 1 + 1) false V ∧ Kept w V)
      (fun q s V => q = .ret ∧ Bb6 (w.heap.size + 1 + 1) true V ∧ Kept w V ∧ R = true)
      ?hI ?hIx ⟨rfl, R4.out, K4.out⟩ ?round ?done ?stop
    case hI =>
      rintro s A B ⟨h1, h2, h3⟩ kb
      have := K4.out.size
      exact ⟨h1, (kb.block _ (by omega)).trans h2, kept_sub h3 kb (by omega)⟩
    case hIx =>
      rintro q s A B ⟨h1, h2, h3, h4⟩ kb
      have := K4.out.size
      exact ⟨h1, (kb.block _ (by omega)).trans h2, kept_sub h3 kb (by omega), h4⟩
    case round =>
      rintro l2 s arr s' V ⟨n, n1, n2, n3, n4, n5, rfl, rfl⟩ ⟨rfl, hb, hk⟩ hsz K hK
      have HRT := Lib.hid (HEX.out.2 ⟨n, n2, n3, n4⟩)
      clear n1 n2 n3 n4 n5
      simp only [List.zip_toArray, List.zip_cons_cons, List.zip_nil_right, List.foldl_toArray, List.foldl_cons, List.foldl_nil, List.setIfInBounds_toArray, List.set_cons_zero, List.set_cons_succ]
      have HB := Lib.hid hb; have HKV := Lib.hid hk
      clear hb hk
      gi_wp2
      refine hK _ _ (Kept.refl V) (fun W2 v2 => ?_)
      have hkz := K4.out.size
      have hb2 := HB.out.save v2 (by omega)
      have hk2 := kept_sub HKV.out (v2.below (n := x4.heap.size) (by omega) (fun k h => by omega)) (by omega)
      have fr := hb2.frz
      have B7 := Lib.hid (hb2.put true); have K7 := Lib.hid (hk2.setCell (a := ⟨w.heap.size + 1 + 1, 0, none⟩) (by simp only; omega) (.bool true))
      have cr := hb2.c
      clear hb2 hk2 hK v2
      gi_wp2
      exact ⟨Save.set _ rfl, rfl, B7.out, K7.out, HRT.out⟩
    case done =>
      rintro s V hend ⟨rfl, hb, hk⟩ hv hK
      have HR := Lib.hid (show R = false from by
        cases hr : R with
        | false => rfl
        | true =>
          obtain ⟨n, h1, h2, h3⟩ := HEX.out.1 hr
          rw [hend n h1 h1 h2] at h3; cases h3)
      have HB := Lib.hid hb; have HKV := Lib.hid hk
      have cr := hb.c; have fr := hb.frz
      have hkz := K4.out.size
      clear hend hb hk hv
      gi_wp2
      refine ⟨by simp, .inl ⟨_, _, rfl, run_takeDeferred (World.setCell_other_block hK (by simp only; omega)), ?_⟩⟩
      have cz := ((HB.out.put false).save (Save.put (M := fun k => k = x4.heap.size) (.deferred none) rfl) (by omega)).c
      have k9 := HKV.out.setCell (a := ⟨w.heap.size + 1 + 1, 0, none⟩) (by simp only; omega) (.bool false)
      refine ⟨.bool false, by simp [results, Tryz.results38, go_sem, cz], by rw [HR.out], kept_sub k9 ((Save.put (M := fun k => k = x4.heap.size) (.deferred none) rfl).below (n := w.heap.size) (by have := k9.size; omega) (fun k h => by omega)) (Nat.le_refl _)⟩
    case stop =>
      rintro q s V ⟨rfl, hb, hk, hR⟩ hv hK
      have HB := Lib.hid hb; have HKV := Lib.hid hk; have HR := Lib.hid hR
      have hkz := K4.out.size
      clear hb hk hv hR
      gi_wp2
      refine ⟨by simp, .inl ⟨_, _, rfl, run_takeDeferred hK, ?_⟩⟩
      have cz := (HB.out.save (Save.put (M := fun k => k = x4.heap.size) (.deferred none) rfl) (by omega)).c
      refine ⟨.bool true, by simp [results, Tryz.results38, go_sem, cz], by rw [HR.out], kept_sub HKV.out ((Save.put (M := fun k => k = x4.heap.size) (.deferred none) rfl).below (n := w.heap.size) (by have := HKV.out.size; omega) (fun k h => by omega)) (Nat.le_refl _)⟩
  · have he : skE z t = 1 := by unfold skE; rw [if_neg hG]
    have HR := Lib.hid (show R = false from by
      cases hr : R with
      | false => rfl
      | true => exact absurd (let q := HSK.out.1 hr; ⟨q.1, q.2.1⟩) hG)
    clear HSK HCR HMC
    generalize skE z t = se at *
    subst he
    have cr := R3.out.c; have fr := R3.out.frz
    clear hG
    gi_wp2
    have cz := (R3.out.put false).c
    exact ⟨.bool false, by simp [results, Tryz.results38, go_sem, cz], by rw [HR.out], K3.out.setCell (by simp only; omega) _⟩
set_option maxRecDepth 100000 in
set_option maxHeartbeats 8000000 in
theorem fires_any (z : Zo) (c : CR) (sl : Nat → Value) (t : Int) (w : World) (h1 : -9223372036854775808 ≤ t) (h2 : t ≤ 9223372036854775807) (hc : Cr w sl c.L) : Calls Tryz.prog 15 #[zoV z, crV sl c.st, .int .i64 t] w fun e w' => e = .returned (.bool (frP z c t)) ∧ Kept w w' := by
  have HF := Lib.hid (show frP z c t = (mayZ z && mayC c && decide (86400 ≤ t ∧ t ≤ 253402214400) && ((decide (atE z t = 0) && mtS c (atS z t) && fsP z (atS z t) t) || (decide (gN z t ≠ 0) && skP c (t + oA z (t - 1)) (gN z t)))) from rfl)
  have HAS := Lib.hid (fun w hw => asShown_any z c sl t w hw)
  have HFS := Lib.hid (fun w hw hm hz t1 => forSkipped_any z c sl t w hw hm hz t1)
  generalize (decide (atE z t = 0) && mtS c (atS z t) && fsP z (atS z t) t) = P at *
  generalize (decide (gN z t ≠ 0) && skP c (t + oA z (t - 1)) (gN z t)) = Q at *
  generalize frP z c t = R at *
  have k0 := (Kept.refl w).alloc (.cells (zo15 z.std z.off z.has z.dst z.ahead z.fr.k z.fr.m z.fr.w z.fr.d z.fr.a z.to.k z.to.m z.to.w z.to.d z.to.a) 25)
  have b0 := bz_new w z
  go_enter Tryz.func15, Tryz.ntmps15
  go_upto_region 1 with (fail)
  generalize hx : w.alloc (.cells (zo15 z.std z.off z.has z.dst z.ahead z.fr.k z.fr.m z.fr.w z.fr.d z.fr.a z.to.k z.to.m z.to.w z.to.d z.to.a) 25) = x at *
  have s1 : x.heap.size = w.heap.size + 1 := by rw [← hx]; simp
  clear hx
  have c1 : Cb (w.heap.size + 1) sl c.st (x.alloc (.cells (cr10 sl c.st) 30)) := by rw [← s1]; exact Cb.new sl c.st x
  have k1 := (Kept.refl x).alloc (.cells (cr10 sl c.st) 30)
  generalize x.alloc (.cells (cr10 sl c.st) 30) = x1 at *
  have Z1 := Lib.hid (b0.kept k1); have B1 := Lib.hid c1; have K1 := Lib.hid (k0.trans k1); have C1 := Lib.hid (hc.kept (k0.trans k1))
  clear b0 k0 k1 c1 s1 hc
  go_wp2_with (refine wpList_load_row rfl 25 _ rfl w.heap.size rfl 25 _ (0, 0) _ Z1.out Tryz.underlying25 rfl (by kernel_rfl) ?_)
  refine (zMay_any z _).mono ?_
  rintro e x2 ⟨rfl, k2⟩
  have Z2 := Lib.hid (Z1.out.kept k2); have B2 := Lib.hid (B1.out.kept k2); have C2 := Lib.hid (C1.out.kept k2); have K2 := Lib.hid (K1.out.trans k2)
  clear k2 Z1 B1 C1 K1
  cases hz : mayZ z with
  | false =>
    have HR := Lib.hid (show R = false by rw [HF.out, hz]; rfl)
    clear HF HAS HFS hz
    go_wp2
    go_ret
    exact ⟨ret_bool HR.out.symm, K2.out⟩
  | true =>
    have HE := Lib.hid (show R = (mayC c && decide (86400 ≤ t ∧ t ≤ 253402214400) && (P || Q)) by rw [HF.out, hz, Bool.true_and])
    have HZ := Lib.hid hz
    clear HF hz
    obtain ⟨e0, e1, e2, e3, e4, e5, e6, e7, e8, e9⟩ := cells10 B2.out
    go_wp2_with fail
    refine (cmay_any c sl _ C2.out).mono ?_
    rintro e x3 ⟨rfl, k3⟩
    have Z3 := Lib.hid (Z2.out.kept k3); have B3 := Lib.hid (B2.out.kept k3); have C3 := Lib.hid (C2.out.kept k3); have K3 := Lib.hid (K2.out.trans k3)
    clear k3 Z2 B2 C2 K2
    clear e0 e1 e2 e3 e4 e5 e6 e7 e8 e9
    cases hm : mayC c with
    | false =>
      have HR := Lib.hid (show R = false by rw [HE.out, hm]; rfl)
      clear HE HAS HFS hm
      go_wp2
      go_ret
      exact ⟨ret_bool HR.out.symm, K3.out⟩
    | true =>
      have HG := Lib.hid (show R = (decide (86400 ≤ t ∧ t ≤ 253402214400) && (P || Q)) by rw [HE.out, hm, Bool.true_and])
      have HM := Lib.hid hm
      clear HE hm
      by_cases r1 : t < 86400
      · have HR := Lib.hid (show R = false by rw [HG.out, decide_eq_false (by omega)]; rfl)
        clear HG HAS HFS
        go_wp2
        go_ret
        exact ⟨ret_bool HR.out.symm, K3.out⟩
      by_cases r2 : 253402214400 < t
      · have HR := Lib.hid (show R = false by rw [HG.out, decide_eq_false (by omega)]; rfl)
        clear HG HAS HFS
        go_wp2
        go_ret
        exact ⟨ret_bool HR.out.symm, K3.out⟩
      have HP := Lib.hid (show R = (P || Q) by rw [HG.out, decide_eq_true (by omega), Bool.true_and])
      clear HG
      go_wp2_with (first | refine wpList_load_row rfl 25 _ rfl w.heap.size rfl 25 _ (0, 0) _ Z3.out Tryz.underlying25 rfl (by kernel_rfl) ?_ | refine wpList_load_row rfl 30 _ rfl (w.heap.size + 1) rfl 30 _ (0, 0) _ B3.out Tryz.underlying30 rfl (by kernel_rfl) ?_)
      refine (HAS.out _ C3.out).mono ?_
      rintro e x4 ⟨rfl, k4⟩
      have Z4 := Lib.hid (Z3.out.kept k4); have B4 := Lib.hid (B3.out.kept k4); have C4 := Lib.hid (C3.out.kept k4); have K4 := Lib.hid (K3.out.trans k4)
      clear k4 Z3 B3 C3 K3
      cases P with
      | true =>
        have HR := Lib.hid (show R = true by rw [HP.out]; rfl)
        clear HP HAS HFS
        go_wp2
        go_ret
        exact ⟨ret_bool HR.out.symm, K4.out⟩
      | false =>
        have HR := Lib.hid (show R = Q by rw [HP.out]; rfl)
        clear HP HAS
        obtain ⟨e0, e1, e2, e3, e4, e5, e6, e7, e8, e9⟩ := cells10 B4.out
        have c0 := Z4.out.cs.c0
        have c1 := Z4.out.cs.c1
        have c2 := Z4.out.cs.c2
        have c3 := Z4.out.cs.c3
        have c4 := Z4.out.cs.c4
        have c5 := Z4.out.cs.c5
        have c6 := Z4.out.cs.c6
        have c7 := Z4.out.cs.c7
        have c8 := Z4.out.cs.c8
        have c9 := Z4.out.cs.c9
        have c10 := Z4.out.cs.c10
        have c11 := Z4.out.cs.c11
        have c12 := Z4.out.cs.c12
        have c13 := Z4.out.cs.c13
        have c14 := Z4.out.cs.c14
        go_wp2_with fail
        refine (HFS.out _ C4.out HM.out HZ.out (by omega) (by omega)).mono ?_
        rintro e x5 ⟨rfl, k5⟩
        have K5 := Lib.hid (K4.out.trans k5)
        clear c0 c1 c2 c3 c4 c5 c6 c7 c8 c9 c10 c11 c12 c13 c14 e0 e1 e2 e3 e4 e5 e6 e7 e8 e9 k5 HFS
        go_wp2
        go_ret
        exact ⟨ret_bool HR.out.symm, K5.out⟩
end Go.Proofs.YtilgamjahediiaaGreatDoor
