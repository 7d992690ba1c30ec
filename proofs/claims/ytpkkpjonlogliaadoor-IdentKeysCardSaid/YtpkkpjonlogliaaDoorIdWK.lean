/- The law IdentKeys, walked. -/
import Derived.Test.YtpkkpjonlogliaaDoorIdL
set_option linter.unusedSimpArgs false
set_option linter.unusedVariables false
namespace Go.Proofs.YtpkkpjonlogliaaDoor
open Go.ChangeShapes Go.WideShapes Go.ChangeAt Go.RowKit
open En Idn
theorem Eb.set0 {d : Nat} {b1 b2 b3 b4 : B} {b5 : Int} {x : World} (h : Eb d (b1, b2, b3, b4, b5) x) (a1 : B) : Eb d (a1, b2, b3, b4, b5) (x.setCell ⟨d, 0, none⟩ (sV a1)) := by
  unfold Eb at h ⊢
  simp [World.setCell, Array.getElem?_modify, h, e5]
theorem Eb.set2 {d : Nat} {b1 b2 b3 b4 : B} {b5 : Int} {x : World} (h : Eb d (b1, b2, b3, b4, b5) x) (a3 : B) : Eb d (b1, b2, a3, b4, b5) (x.setCell ⟨d, 2, none⟩ (sV a3)) := by
  unfold Eb at h ⊢
  simp [World.setCell, Array.getElem?_modify, h, e5]
theorem Eb.other {d : Nat} {e : Ent} {x : World} {a : Addr} {v : Value} (h : Eb d e x) (hd : d ≠ a.block) : Eb d e (x.setCell a v) := set_other h hd
theorem few_two {a b : Ent} (h : decide (FewP 2 [a, b]) = true) : Sm5 300 a ∧ Sm5 300 b := by
  have := (of_decide_eq_true h).2
  exact ⟨this a (by simp), this b (by simp)⟩
theorem sm_up {n m : Nat} {e : Ent} (h : Sm5 n e) (hn : n ≤ m) : Sm5 m e := ⟨by have := h.1; omega, by have := h.2.1; omega, by have := h.2.2.1; omega, by have := h.2.2.2; omega⟩
theorem norm_nil : norm [] = [] := rfl
theorem key_a1 {a b : Ent} (h : norm a.1 ≠ []) : key (a.1, b.2.1, b.2.2.1, b.2.2.2.1, b.2.2.2.2) = key a := by rw [key_id h, key_id (e := (a.1, b.2.1, b.2.2.1, b.2.2.2.1, b.2.2.2.2)) h]
theorem key_a3 {a b : Ent} (h : norm a.1 = []) (h3 : norm a.2.2.1 ≠ []) : key ([], b.2.1, a.2.2.1, b.2.2.2.1, b.2.2.2.2) = key a := by
  rw [key_link h h3, key_link (e := ([], b.2.1, a.2.2.1, b.2.2.2.1, b.2.2.2.2)) norm_nil h3]
set_option maxRecDepth 100000 in
set_option maxHeartbeats 8000000 in
theorem keys10_walk (a b : Ent) (w : World) (hE : Env w) : Calls Tryd.prog 7 #[entV a, entV b] w fun e w' => e = .returned (.bool true) ∧ Kept w w' := by
  have HE := Lib.hid hE
  clear hE
  have B0 := Lib.hid (Eb.new w a)
  have k0 := (Kept.refl w).alloc (.cells (e5 a) 28)
  have B0' := Lib.hid (Eb.new (w.alloc (.cells (e5 a) 28)) b)
  rw [show (w.alloc (.cells (e5 a) 28)).heap.size = w.heap.size + 1 by simp] at B0'
  have k0' := (Kept.refl (w.alloc (.cells (e5 a) 28))).alloc (.cells (e5 b) 28)
  have BA := Lib.hid (B0.out.kept k0')
  have K0 := Lib.hid (k0.trans k0')
  clear k0 k0' B0
  have HKA := Lib.hid (fun x (k : Kept w x) (h : Sm5 300 a) => key_any a x (HE.out.kept k) (sm_up h (by omega)))
  have HKB := Lib.hid (fun x (k : Kept w x) (h : Sm5 300 b) => key_any b x (HE.out.kept k) (sm_up h (by omega)))
  have HP := Lib.hid (key_pos a)
  have HP2 := Lib.hid (key_pos b)
  have HC1 := Lib.hid (fun x (k : Kept w x) (ha : Sm5 300 a) (hb : Sm5 300 b) => key_any (a.1, b.2.1, b.2.2.1, b.2.2.2.1, b.2.2.2.2) x (HE.out.kept k) ⟨by have := ha.1; simp only; omega, by have := hb.2.1; simp only; omega, by have := hb.2.2.1; simp only; omega, by have := hb.2.2.2; simp only; omega⟩)
  have HC3 := Lib.hid (fun x (k : Kept w x) (ha : Sm5 300 a) (hb : Sm5 300 b) => key_any ([], b.2.1, a.2.2.1, b.2.2.2.1, b.2.2.2.2) x (HE.out.kept k) ⟨by simp, by have := hb.2.1; simp only; omega, by have := ha.2.2.1; simp only; omega, by have := hb.2.2.2; simp only; omega⟩)
  have HN1 := Lib.hid (fun x (k : Kept w x) (ha : Sm5 300 a) => norm_any a.1 x (HE.out.kept k) (by have := ha.1; omega))
  have HN3 := Lib.hid (fun x (k : Kept w x) (ha : Sm5 300 a) => norm_any a.2.2.1 x (HE.out.kept k) (by have := ha.2.2.1; omega))
  have HQ1 := Lib.hid (fun h => key_a1 (a := a) (b := b) h)
  have HQ3 := Lib.hid (fun h h3 => key_a3 (a := a) (b := b) h h3)
  have HKL := Lib.hid (fun (ha : Sm5 300 a) => key_len ha)
  have HKL2 := Lib.hid (fun (ha : Sm5 300 b) => key_len ha)
  have HW := Lib.hid (fun x => few_any _ [a, b] 2 _ (en_newL x [a, b]) (by unfold maxLen; simp))
  have HF := Lib.hid (fun (h : decide (FewP 2 [a, b]) = true) => few_two h)
  generalize decide (FewP 2 [a, b]) = fw at *
  obtain ⟨a1, a2, a3, a4, a5⟩ := a
  obtain ⟨b1, b2, b3, b4, b5⟩ := b
  simp only at HN1 HN3 HQ1 HQ3 HC1 HC3
  go_enter Tryd.func7, Tryd.ntmps7
  go_upto_region 1 with (fail)
  rw [show (w.alloc (.cells #[sV a1, sV a2, sV a3, sV a4, iV a5] 28)).alloc (.cells #[sV b1, sV b2, sV b3, sV b4, iV b5] 28) = (w.alloc (.cells (e5 (a1, a2, a3, a4, a5)) 28)).alloc (.cells (e5 (b1, b2, b3, b4, b5)) 28) from rfl]
  generalize hb0 : w.heap.size = c at *
  generalize (w.alloc (.cells (e5 (a1, a2, a3, a4, a5)) 28)).alloc (.cells (e5 (b1, b2, b3, b4, b5)) 28) = y0 at *
  have hzy := B0'.out.lt
  go_wp2_with fail
  refine (iawake_any y0 (HE.out.kept K0.out)).mono ?_
  rintro e y1 ⟨rfl, k1⟩
  have A1 := Lib.hid (BA.out.kept k1)
  have C1 := Lib.hid (B0'.out.kept k1)
  have K1 := Lib.hid (K0.out.trans k1)
  clear k1 BA B0' K0
  obtain ⟨p0, p1, p2, p3, p4⟩ := A1.out.cells
  obtain ⟨q0, q1, q2, q3, q4⟩ := C1.out.cells
  simp only at p0 p1 p2 p3 p4 q0 q1 q2 q3 q4
  go_wp2_with fail
  have kk1 := (Kept.refl y1).alloc (.cells ([((a1, a2, a3, a4, a5) : Ent), (b1, b2, b3, b4, b5)].flatMap eCells).toArray 28)
  rw [show y1.alloc (.cells #[sV a1, sV a2, sV a3, sV a4, iV a5, sV b1, sV b2, sV b3, sV b4, iV b5] 28) = y1.alloc (.cells ([((a1, a2, a3, a4, a5) : Ent), (b1, b2, b3, b4, b5)].flatMap eCells).toArray 28) from rfl]
  refine (HW.out y1).mono ?_
  rintro e y2 ⟨rfl, hy2⟩
  subst hy2
  generalize y1.alloc (.cells ([((a1, a2, a3, a4, a5) : Ent), (b1, b2, b3, b4, b5)].flatMap eCells).toArray 28) = y2 at *
  have A2 := Lib.hid (A1.out.kept kk1)
  have C2 := Lib.hid (C1.out.kept kk1)
  have K2 := Lib.hid (K1.out.trans kk1)
  clear kk1 A1 C1 K1 p0 p1 p2 p3 p4 q0 q1 q2 q3 q4
  obtain ⟨p0, p1, p2, p3, p4⟩ := A2.out.cells
  obtain ⟨q0, q1, q2, q3, q4⟩ := C2.out.cells
  simp only at p0 p1 p2 p3 p4 q0 q1 q2 q3 q4
  cases hfw : fw with
  | false =>
    go_wp2
    go_ret
    exact ⟨rfl, K2.out⟩
  | true =>
  obtain ⟨ha, hb⟩ := HF.out hfw
  have HA := Lib.hid ha; have HB := Lib.hid hb
  have hkl := HKL.out ha
  have hkl2 := HKL2.out hb
  have HKA2 := Lib.hid (fun x k => HKA.out x k ha)
  have HKB2 := Lib.hid (fun x k => HKB.out x k hb)
  have HC12 := Lib.hid (fun x k => HC1.out x k ha hb)
  have HC32 := Lib.hid (fun x k => HC3.out x k ha hb)
  have HN12 := Lib.hid (fun x k => HN1.out x k ha)
  have HN32 := Lib.hid (fun x k => HN3.out x k ha)
  have hn1 := norm_len a1
  have hn3 := norm_len a3
  obtain ⟨la1, la2, la3, la4⟩ := ha
  obtain ⟨lb1, lb2, lb3, lb4⟩ := hb
  simp only at la1 la2 la3 la4 lb1 lb2 lb3 lb4
  clear hfw HF HKL HKL2 HKA HKB HC1 HC3 HN1 HN3 HA HB HW
  have HPX := Lib.hid (show 0 < (key (a1, a2, a3, a4, a5)).length from List.length_pos_iff.2 HP.out)
  have HPY := Lib.hid (show 0 < (key (b1, b2, b3, b4, b5)).length from List.length_pos_iff.2 HP2.out)
  generalize key (a1, a2, a3, a4, a5) = x at *
  generalize key (b1, b2, b3, b4, b5) = y at *
  generalize key (a1, b2, b3, b4, b5) = xc at *
  generalize key ([], b2, a3, b4, b5) = xd at *
  clear HP HP2
  go_wp2_with fail
  refine (HKA2.out _ K2.out).mono ?_
  rintro e y3 ⟨rfl, k3⟩
  have A3 := Lib.hid (A2.out.kept k3)
  have C3 := Lib.hid (C2.out.kept k3)
  have K3 := Lib.hid (K2.out.trans k3)
  clear k3 A2 C2 K2 p0 p1 p2 p3 p4 q0 q1 q2 q3 q4 HKA2
  obtain ⟨p0, p1, p2, p3, p4⟩ := A3.out.cells
  obtain ⟨q0, q1, q2, q3, q4⟩ := C3.out.cells
  simp only at p0 p1 p2 p3 p4 q0 q1 q2 q3 q4
  go_wp2_with fail
  refine (HKB2.out _ K3.out).mono ?_
  rintro e y4 ⟨rfl, k4⟩
  have A4 := Lib.hid (A3.out.kept k4)
  have C4 := Lib.hid (C3.out.kept k4)
  have K4 := Lib.hid (K3.out.trans k4)
  clear k4 A3 C3 K3 p0 p1 p2 p3 p4 q0 q1 q2 q3 q4 HKB2
  obtain ⟨p0, p1, p2, p3, p4⟩ := A4.out.cells
  obtain ⟨q0, q1, q2, q3, q4⟩ := C4.out.cells
  simp only at p0 p1 p2 p3 p4 q0 q1 q2 q3 q4
  have hyz := K4.out.size
  rw [hb0] at hyz
  have hcy := A4.out.lt
  have hcz := C4.out.lt
  have D5 := Lib.hid (Eb.new y4 (b1, b2, b3, b4, b5))
  have kk5 := (Kept.refl y4).alloc (.cells (e5 (b1, b2, b3, b4, b5)) 28)
  have A5 := Lib.hid (A4.out.kept kk5)
  have C5 := Lib.hid (C4.out.kept kk5)
  have K5 := Lib.hid (K4.out.trans kk5)
  clear kk5 A4 C4 K4
  go_upto_region 8 with (fail)
  rw [show y4.alloc (.cells #[.string ⟨b1.toArray⟩, .string ⟨b2.toArray⟩, .string ⟨b3.toArray⟩, .string ⟨b4.toArray⟩, .int .i64 b5] 28) = y4.alloc (.cells (e5 (b1, b2, b3, b4, b5)) 28) from rfl]
  generalize hd0 : y4.heap.size = d at *
  generalize y4.alloc (.cells (e5 (b1, b2, b3, b4, b5)) 28) = y5 at *
  clear p0 p1 p2 p3 p4 q0 q1 q2 q3 q4
  obtain ⟨p0, p1, p2, p3, p4⟩ := A5.out.cells
  obtain ⟨q0, q1, q2, q3, q4⟩ := C5.out.cells
  obtain ⟨r0, r1, r2, r3, r4⟩ := D5.out.cells
  simp only at p0 p1 p2 p3 p4 q0 q1 q2 q3 q4 r0 r1 r2 r3 r4
  have fz := D5.out.frz 0
  have D6 := Lib.hid (D5.out.set0 a1)
  have A6 := Lib.hid (A5.out.other (a := ⟨d, 0, none⟩) (v := sV a1) (by simp only; omega))
  have C6 := Lib.hid (C5.out.other (a := ⟨d, 0, none⟩) (v := sV a1) (by simp only; omega))
  have K6 := Lib.hid (K5.out.setCell (a := ⟨d, 0, none⟩) (by simp only; omega) (sV a1))
  go_upto_region 9 with (fail)
  generalize y5.setCell ⟨d, 0, none⟩ (sV a1) = y6 at *
  clear fz A5 C5 K5 D5 p0 p1 p2 p3 p4 q0 q1 q2 q3 q4 r0 r1 r2 r3 r4
  obtain ⟨p0, p1, p2, p3, p4⟩ := A6.out.cells
  obtain ⟨q0, q1, q2, q3, q4⟩ := C6.out.cells
  obtain ⟨r0, r1, r2, r3, r4⟩ := D6.out.cells
  simp only at p0 p1 p2 p3 p4 q0 q1 q2 q3 q4 r0 r1 r2 r3 r4
  go_wp2_with fail
  refine (HN12.out _ K6.out).mono ?_
  rintro e y7 ⟨rfl, k7⟩
  have A7 := Lib.hid (A6.out.kept k7)
  have C7 := Lib.hid (C6.out.kept k7)
  have K7 := Lib.hid (K6.out.trans k7)
  have D7 := Lib.hid (D6.out.kept k7)
  clear k7 A6 C6 K6 D6 p0 p1 p2 p3 p4 q0 q1 q2 q3 q4 r0 r1 r2 r3 r4
  obtain ⟨p0, p1, p2, p3, p4⟩ := A7.out.cells
  obtain ⟨q0, q1, q2, q3, q4⟩ := C7.out.cells
  obtain ⟨r0, r1, r2, r3, r4⟩ := D7.out.cells
  simp only at p0 p1 p2 p3 p4 q0 q1 q2 q3 q4 r0 r1 r2 r3 r4
  by_cases h1 : norm a1 = []
  · have HQ := Lib.hid (fun h3 => HQ3.out h1 h3)
    have he1 : (norm a1).isEmpty = true := by simp [h1]
    have hb1 : (norm a1 != []) = false := by simp [h1]
    have hb2 : (norm a1 == []) = true := by simp [h1]
    clear HQ1 HQ3 HC12 h1
    generalize norm a1 = n1 at *
    go_upto_region 11 with (fail)
    have fz := D7.out.frz 0
    have D9 := Lib.hid (D7.out.set0 [])
    have A9 := Lib.hid (A7.out.other (a := ⟨d, 0, none⟩) (v := sV []) (by simp only; omega))
    have C9 := Lib.hid (C7.out.other (a := ⟨d, 0, none⟩) (v := sV []) (by simp only; omega))
    have K9 := Lib.hid (K7.out.setCell (a := ⟨d, 0, none⟩) (by simp only; omega) (sV []))
    go_upto_region 12 with (fail)
    rw [show y7.setCell ⟨d, 0, none⟩ (.string ⟨#[]⟩) = y7.setCell ⟨d, 0, none⟩ (sV []) from rfl]
    generalize y7.setCell ⟨d, 0, none⟩ (sV []) = y9 at *
    clear fz A7 C7 K7 D7 p0 p1 p2 p3 p4 q0 q1 q2 q3 q4 r0 r1 r2 r3 r4
    obtain ⟨p0, p1, p2, p3, p4⟩ := A9.out.cells
    obtain ⟨q0, q1, q2, q3, q4⟩ := C9.out.cells
    obtain ⟨r0, r1, r2, r3, r4⟩ := D9.out.cells
    simp only at p0 p1 p2 p3 p4 q0 q1 q2 q3 q4 r0 r1 r2 r3 r4
    have fz := D9.out.frz 2
    have D10 := Lib.hid (D9.out.set2 a3)
    have A10 := Lib.hid (A9.out.other (a := ⟨d, 2, none⟩) (v := sV a3) (by simp only; omega))
    have C10 := Lib.hid (C9.out.other (a := ⟨d, 2, none⟩) (v := sV a3) (by simp only; omega))
    have K10 := Lib.hid (K9.out.setCell (a := ⟨d, 2, none⟩) (by simp only; omega) (sV a3))
    go_upto_region 13 with (fail)
    generalize y9.setCell ⟨d, 2, none⟩ (sV a3) = y10 at *
    clear fz A9 C9 K9 D9 p0 p1 p2 p3 p4 q0 q1 q2 q3 q4 r0 r1 r2 r3 r4
    obtain ⟨p0, p1, p2, p3, p4⟩ := A10.out.cells
    obtain ⟨q0, q1, q2, q3, q4⟩ := C10.out.cells
    obtain ⟨r0, r1, r2, r3, r4⟩ := D10.out.cells
    simp only at p0 p1 p2 p3 p4 q0 q1 q2 q3 q4 r0 r1 r2 r3 r4
    go_wp2_with fail
    refine (HN12.out _ K10.out).mono ?_
    rintro e y11 ⟨rfl, k11⟩
    have A11 := Lib.hid (A10.out.kept k11)
    have C11 := Lib.hid (C10.out.kept k11)
    have K11 := Lib.hid (K10.out.trans k11)
    have D11 := Lib.hid (D10.out.kept k11)
    clear k11 A10 C10 K10 D10 p0 p1 p2 p3 p4 q0 q1 q2 q3 q4 r0 r1 r2 r3 r4
    obtain ⟨p0, p1, p2, p3, p4⟩ := A11.out.cells
    obtain ⟨q0, q1, q2, q3, q4⟩ := C11.out.cells
    obtain ⟨r0, r1, r2, r3, r4⟩ := D11.out.cells
    simp only at p0 p1 p2 p3 p4 q0 q1 q2 q3 q4 r0 r1 r2 r3 r4
    go_wp2_with fail
    refine (HN32.out _ K11.out).mono ?_
    rintro e y12 ⟨rfl, k12⟩
    have A12 := Lib.hid (A11.out.kept k12)
    have C12 := Lib.hid (C11.out.kept k12)
    have K12 := Lib.hid (K11.out.trans k12)
    have D12 := Lib.hid (D11.out.kept k12)
    clear k12 A11 C11 K11 D11 p0 p1 p2 p3 p4 q0 q1 q2 q3 q4 r0 r1 r2 r3 r4
    obtain ⟨p0, p1, p2, p3, p4⟩ := A12.out.cells
    obtain ⟨q0, q1, q2, q3, q4⟩ := C12.out.cells
    obtain ⟨r0, r1, r2, r3, r4⟩ := D12.out.cells
    simp only at p0 p1 p2 p3 p4 q0 q1 q2 q3 q4 r0 r1 r2 r3 r4
    by_cases h3 : norm a3 = []
    · have he3 : (norm a3).isEmpty = true := by simp [h3]
      clear HQ h3 HC32
      generalize norm a3 = n3 at *
      have KK := K12
      have hx0 : ((x.length : Int) == 0) = false := by rw [beq_eq_false_iff_ne]; have := HPX.out; omega
      have hy0 : ((y.length : Int) == 0) = false := by rw [beq_eq_false_iff_ne]; have := HPY.out; omega
      have hxl := HPX.out
      have hyl := HPY.out
      by_cases hxy : x = y
      · subst hxy
        have hbx : (x != x) = false := by simp
        go_upto_region 17 with (fail)
        go_quiet (fail)
        go_wp2
        go_ret
        exact ⟨by simp, KK.out.drewN _⟩
      · have hbx : (x != y) = true := by simpa using hxy
        have hbx2 : (x == y) = false := by simpa using hxy
        clear hxy
        go_upto_region 17 with (fail)
        go_quiet (fail)
        go_wp2
        go_ret
        exact ⟨by simp, KK.out.drewN _⟩
    · have he3 : (norm a3).isEmpty = false := by simpa using h3
      have HE2 := Lib.hid (HQ.out h3)
      clear HQ h3
      generalize norm a3 = n3 at *
      go_wp2_with fail
      refine (HC32.out _ K12.out).mono ?_
      rintro e y13 ⟨rfl, k13⟩
      have KK := Lib.hid (K12.out.trans k13)
      rw [HE2.out]
      clear k13
      have hx0 : ((x.length : Int) == 0) = false := by rw [beq_eq_false_iff_ne]; have := HPX.out; omega
      have hy0 : ((y.length : Int) == 0) = false := by rw [beq_eq_false_iff_ne]; have := HPY.out; omega
      have hxl := HPX.out
      have hyl := HPY.out
      by_cases hxy : x = y
      · subst hxy
        have hbx : (x != x) = false := by simp
        go_upto_region 17 with (fail)
        go_quiet (fail)
        go_wp2
        go_ret
        exact ⟨by simp, KK.out.drewN _⟩
      · have hbx : (x != y) = true := by simpa using hxy
        have hbx2 : (x == y) = false := by simpa using hxy
        clear hxy
        go_upto_region 17 with (fail)
        go_quiet (fail)
        go_wp2
        go_ret
        exact ⟨by simp, KK.out.drewN _⟩
  · have HE1 := Lib.hid (HQ1.out h1)
    have he1 : (norm a1).isEmpty = false := by simpa using h1
    clear HQ1 HQ3 h1 HN32 HC32
    generalize norm a1 = n1 at *
    go_wp2_with fail
    refine (HC12.out _ K7.out).mono ?_
    rintro e y8 ⟨rfl, k8⟩
    have A8 := Lib.hid (A7.out.kept k8)
    have C8 := Lib.hid (C7.out.kept k8)
    have K8 := Lib.hid (K7.out.trans k8)
    have D8 := Lib.hid (D7.out.kept k8)
    clear k8 A7 C7 K7 D7 p0 p1 p2 p3 p4 q0 q1 q2 q3 q4 r0 r1 r2 r3 r4
    obtain ⟨p0, p1, p2, p3, p4⟩ := A8.out.cells
    obtain ⟨q0, q1, q2, q3, q4⟩ := C8.out.cells
    obtain ⟨r0, r1, r2, r3, r4⟩ := D8.out.cells
    simp only at p0 p1 p2 p3 p4 q0 q1 q2 q3 q4 r0 r1 r2 r3 r4
    rw [HE1.out]
    go_upto_region 11 with (fail)
    have fz := D8.out.frz 0
    have D9 := Lib.hid (D8.out.set0 [])
    have A9 := Lib.hid (A8.out.other (a := ⟨d, 0, none⟩) (v := sV []) (by simp only; omega))
    have C9 := Lib.hid (C8.out.other (a := ⟨d, 0, none⟩) (v := sV []) (by simp only; omega))
    have K9 := Lib.hid (K8.out.setCell (a := ⟨d, 0, none⟩) (by simp only; omega) (sV []))
    go_upto_region 12 with (fail)
    rw [show y8.setCell ⟨d, 0, none⟩ (.string ⟨#[]⟩) = y8.setCell ⟨d, 0, none⟩ (sV []) from rfl]
    generalize y8.setCell ⟨d, 0, none⟩ (sV []) = y9 at *
    clear fz A8 C8 K8 D8 p0 p1 p2 p3 p4 q0 q1 q2 q3 q4 r0 r1 r2 r3 r4
    obtain ⟨p0, p1, p2, p3, p4⟩ := A9.out.cells
    obtain ⟨q0, q1, q2, q3, q4⟩ := C9.out.cells
    obtain ⟨r0, r1, r2, r3, r4⟩ := D9.out.cells
    simp only at p0 p1 p2 p3 p4 q0 q1 q2 q3 q4 r0 r1 r2 r3 r4
    have fz := D9.out.frz 2
    have D10 := Lib.hid (D9.out.set2 a3)
    have A10 := Lib.hid (A9.out.other (a := ⟨d, 2, none⟩) (v := sV a3) (by simp only; omega))
    have C10 := Lib.hid (C9.out.other (a := ⟨d, 2, none⟩) (v := sV a3) (by simp only; omega))
    have K10 := Lib.hid (K9.out.setCell (a := ⟨d, 2, none⟩) (by simp only; omega) (sV a3))
    go_upto_region 13 with (fail)
    generalize y9.setCell ⟨d, 2, none⟩ (sV a3) = y10 at *
    clear fz A9 C9 K9 D9 p0 p1 p2 p3 p4 q0 q1 q2 q3 q4 r0 r1 r2 r3 r4
    obtain ⟨p0, p1, p2, p3, p4⟩ := A10.out.cells
    obtain ⟨q0, q1, q2, q3, q4⟩ := C10.out.cells
    obtain ⟨r0, r1, r2, r3, r4⟩ := D10.out.cells
    simp only at p0 p1 p2 p3 p4 q0 q1 q2 q3 q4 r0 r1 r2 r3 r4
    go_wp2_with fail
    refine (HN12.out _ K10.out).mono ?_
    rintro e y11 ⟨rfl, k11⟩
    have A11 := Lib.hid (A10.out.kept k11)
    have C11 := Lib.hid (C10.out.kept k11)
    have K11 := Lib.hid (K10.out.trans k11)
    have D11 := Lib.hid (D10.out.kept k11)
    clear k11 A10 C10 K10 D10 p0 p1 p2 p3 p4 q0 q1 q2 q3 q4 r0 r1 r2 r3 r4
    obtain ⟨p0, p1, p2, p3, p4⟩ := A11.out.cells
    obtain ⟨q0, q1, q2, q3, q4⟩ := C11.out.cells
    obtain ⟨r0, r1, r2, r3, r4⟩ := D11.out.cells
    simp only at p0 p1 p2 p3 p4 q0 q1 q2 q3 q4 r0 r1 r2 r3 r4
    have KK := K11
    have hx0 : ((x.length : Int) == 0) = false := by rw [beq_eq_false_iff_ne]; have := HPX.out; omega
    have hy0 : ((y.length : Int) == 0) = false := by rw [beq_eq_false_iff_ne]; have := HPY.out; omega
    have hxl := HPX.out
    have hyl := HPY.out
    by_cases hxy : x = y
    · subst hxy
      have hbx : (x != x) = false := by simp
      go_upto_region 17 with (fail)
      go_quiet (fail)
      go_wp2
      go_ret
      exact ⟨by simp, KK.out.drewN _⟩
    · have hbx : (x != y) = true := by simpa using hxy
      have hbx2 : (x == y) = false := by simpa using hxy
      clear hxy
      go_upto_region 17 with (fail)
      go_quiet (fail)
      go_wp2
      go_ret
      exact ⟨by simp, KK.out.drewN _⟩
end Go.Proofs.YtpkkpjonlogliaaDoor
