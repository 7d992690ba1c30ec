/- Contracts of the document's answer for zones: a zone's text. -/
import Derived.Test.YtomnjdammfiadaaDoorZnRefM
import Derived.Test.YtomnjdammfiadaaDoorZnRefR
namespace Go.Proofs.YtomnjdammfiadaaDoor
open Go.ChangeShapes Go.WideShapes Go.ChangeAt Go.RowKit
open Zn
set_option maxHeartbeats 1000000 in
theorem rWrite_not (z : Zo) (w : World) (h : mayZ z = false) (q1 : z.std.length ≤ 1000) (q2 : z.dst.length ≤ 1000) :
    Calls Tryd.prog 11 #[zoV z] w fun e w' => e = .returned (.tuple #[.string ⟨#[]⟩, .int .i64 1]) ∧ Kept w w' := by
  have H := Lib.hid h; clear h
  have Q := Lib.hid (And.intro q1 q2); clear q1 q2
  go_enter Tryd.func11, Tryd.ntmps11
  go_wp2_with fail
  refine (rMay_any z _ Q.out.1 Q.out.2).mono ?_
  rintro e w1 ⟨rfl, k1⟩
  rw [H.out]
  have kb := k1.back; clear k1
  go_wp2
  go_ret2
  exact ⟨rfl, kb⟩
theorem held2 {W x x' : World} {b : Nat} {v0 v1 : Value} (k : Kept x x') (H : Kept W x ∧ x.cell? ⟨b, 0, none⟩ = some v0 ∧ x.cell? ⟨b, 1, none⟩ = some v1) (hb : b < W.heap.size) :
    Kept W x' ∧ x'.cell? ⟨b, 0, none⟩ = some v0 ∧ x'.cell? ⟨b, 1, none⟩ = some v1 := by
  obtain ⟨h0, h1, h2⟩ := H
  have hb' : b < x.heap.size := Nat.lt_of_lt_of_le hb h0.size
  exact ⟨h0.trans k, (k.cell (a := ⟨b, 0, none⟩) hb').trans h1, (k.cell (a := ⟨b, 1, none⟩) hb').trans h2⟩
theorem held10' {W x x' : World} {b : Nat} {v5 v6 v7 v8 v9 v10 v11 v12 v13 v14 : Value} (k : Kept x x') (H : Kept W x ∧ b < x.heap.size ∧ x.cell? ⟨b, 5, none⟩ = some v5 ∧ x.cell? ⟨b, 6, none⟩ = some v6 ∧ x.cell? ⟨b, 7, none⟩ = some v7 ∧ x.cell? ⟨b, 8, none⟩ = some v8 ∧ x.cell? ⟨b, 9, none⟩ = some v9 ∧ x.cell? ⟨b, 10, none⟩ = some v10 ∧ x.cell? ⟨b, 11, none⟩ = some v11 ∧ x.cell? ⟨b, 12, none⟩ = some v12 ∧ x.cell? ⟨b, 13, none⟩ = some v13 ∧ x.cell? ⟨b, 14, none⟩ = some v14) :
    Kept W x' ∧ b < x'.heap.size ∧ x'.cell? ⟨b, 5, none⟩ = some v5 ∧ x'.cell? ⟨b, 6, none⟩ = some v6 ∧ x'.cell? ⟨b, 7, none⟩ = some v7 ∧ x'.cell? ⟨b, 8, none⟩ = some v8 ∧ x'.cell? ⟨b, 9, none⟩ = some v9 ∧ x'.cell? ⟨b, 10, none⟩ = some v10 ∧ x'.cell? ⟨b, 11, none⟩ = some v11 ∧ x'.cell? ⟨b, 12, none⟩ = some v12 ∧ x'.cell? ⟨b, 13, none⟩ = some v13 ∧ x'.cell? ⟨b, 14, none⟩ = some v14 := by
  obtain ⟨h0, hb', h5, h6, h7, h8, h9, h10, h11, h12, h13, h14⟩ := H
  have q : ∀ j, x'.cell? ⟨b, j, none⟩ = x.cell? ⟨b, j, none⟩ := fun j => k.cell (a := ⟨b, j, none⟩) hb'
  exact ⟨h0.trans k, Nat.lt_of_lt_of_le hb' k.size, (q 5).trans h5, (q 6).trans h6, (q 7).trans h7, (q 8).trans h8, (q 9).trans h9, (q 10).trans h10, (q 11).trans h11, (q 12).trans h12, (q 13).trans h13, (q 14).trans h14⟩
theorem mayN_len {l : List UInt8} (h : mayN l = true) : l.length ≤ 10 := by simp [mayN] at h; omega
theorem rr_len {r : Ru} (h : mayR r = true) : (rr r).length ≤ 24 := by have := rt_len h; rw [rt_rr] at this; simp only [List.length_cons] at this; omega
set_option maxRecDepth 100000 in
set_option maxHeartbeats 4000000 in
theorem rWrite_plain (std : List UInt8) (off : Int) (dst : List UInt8) (ahead : Int) (fr to : Ru) (w : World) (h : mayZ ⟨std, off, false, dst, ahead, fr, to⟩ = true) (q2 : dst.length ≤ 1000) :
    Calls Tryd.prog 11 #[zoV ⟨std, off, false, dst, ahead, fr, to⟩] w fun e w' => e = .returned (.tuple #[.string ⟨(nt std ++ tt (-off)).toArray⟩, .int .i64 0]) ∧ Kept w w' := by
  have hz := h
  unfold mayZ at hz
  simp only [Bool.and_eq_true] at hz
  obtain ⟨⟨h1, h2⟩, -⟩ := hz
  obtain ⟨o1, o2⟩ := off_bd h2
  have q1 := mayN_len h1
  have l1 := nt_len h1
  have l2 := tt_len (n := -off) (by omega) (by omega)
  have H := Lib.hid h
  clear h1 h2 h
  have hno : ¬ 9223372036854775807 < (nt std).length + (tt (-off)).length := by omega
  have hwn : IntKind.i64.wrap (-off) = -off := IntWalk.i64_in _ (by omega)
  have hw36 : wrap64 (off + 3600) = off + 3600 := by unfold wrap64; omega
  go_enter Tryd.func11, Tryd.ntmps11
  go_wp2_with fail
  refine (rMay_any ⟨std, off, false, dst, ahead, fr, to⟩ _ (by simp only; omega) (by simp only; omega)).mono ?_
  rintro e w1 ⟨rfl, k1⟩
  rw [H.out]
  have C := Lib.hid (Cs.of_new (z := ⟨std, off, false, dst, ahead, fr, to⟩) k1)
  have c0 := C.out.c0
  have c1 := C.out.c1
  have hb : w.heap.size < w1.heap.size := by have := k1.size; simp at this; omega
  have kb := k1.back; clear k1
  go_wp2_with fail
  go_region_held3 (fun y => Kept w1 y ∧ y.cell? ⟨w.heap.size, 0, none⟩ = some (.string ⟨std.toArray⟩) ∧ y.cell? ⟨w.heap.size, 1, none⟩ = some (.int .i64 off)) (first | exact held2 (by assumption) (by assumption) hb | assumption | exact ⟨(Kept.refl w1).drew, c0, c1⟩)
    (first | (go_at_call 22; refine (rname_any _ _ (by omega)).mono ?_; rintro e w' ⟨rfl, rfl⟩)
           | (go_at_call 23; refine (rTime_any _ _ (by omega) (by omega)).mono ?_; rintro e w' ⟨rfl, rfl⟩))
  clear c0 c1 hno hwn
  have D := Lib.hid (C.out.kept (Kept.refl w1).drew hb)
  have hby : w.heap.size < w1.drew.heap.size := hb
  have ky := kb.drew
  clear C kb hb
  generalize w1.drew = y at *
  have c1 := D.out.c1
  have c2 := D.out.c2
  have c3 := D.out.c3
  have c4 := D.out.c4
  go_wp2
  go_ret2
  exact ⟨ret_str2 (app_mk _ _), ky⟩
set_option maxRecDepth 100000 in
set_option maxHeartbeats 4000000 in
theorem rWrite_eq (std : List UInt8) (off : Int) (dst : List UInt8) (fr to : Ru) (w : World) (h : mayZ ⟨std, off, true, dst, off + 3600, fr, to⟩ = true) (q2 : dst.length ≤ 1000) :
    Calls Tryd.prog 11 #[zoV ⟨std, off, true, dst, off + 3600, fr, to⟩] w fun e w' => e = .returned (.tuple #[.string ⟨(nt std ++ tt (-off) ++ nt dst ++ rt fr ++ rt to).toArray⟩, .int .i64 0]) ∧ Kept w w' := by
  have hz := h
  unfold mayZ at hz
  simp only [Bool.and_eq_true, if_true] at hz
  obtain ⟨⟨h1, h2⟩, ⟨⟨h3, h4⟩, h5⟩, h6⟩ := hz
  obtain ⟨o1, o2⟩ := off_bd h2
  have q1 := mayN_len h1
  have l1 := nt_len h1
  have l2 := tt_len (n := -off) (by omega) (by omega)
  have l3 := nt_len h3
  have l4 := rr_len h5
  have l5 := rr_len h6
  have q3 := mayN_len h3
  have H5 := Lib.hid h5
  have H6 := Lib.hid h6
  have H := Lib.hid h
  clear h1 h2 h h3 h4 h5 h6
  have hno : ¬ 9223372036854775807 < (nt std).length + (tt (-off)).length := by omega
  have hwn : IntKind.i64.wrap (-off) = -off := IntWalk.i64_in _ (by omega)
  have hw36 : wrap64 (off + 3600) = off + 3600 := by unfold wrap64; omega
  go_enter Tryd.func11, Tryd.ntmps11
  go_wp2_with fail
  refine (rMay_any ⟨std, off, true, dst, off + 3600, fr, to⟩ _ (by simp only; omega) (by simp only; omega)).mono ?_
  rintro e w1 ⟨rfl, k1⟩
  rw [H.out]
  have C := Lib.hid (Cs.of_new (z := ⟨std, off, true, dst, off + 3600, fr, to⟩) k1)
  have c0 := C.out.c0
  have c1 := C.out.c1
  have hb : w.heap.size < w1.heap.size := by have := k1.size; simp at this; omega
  have kb := k1.back; clear k1
  go_wp2_with fail
  go_region_held3 (fun y => Kept w1 y ∧ y.cell? ⟨w.heap.size, 0, none⟩ = some (.string ⟨std.toArray⟩) ∧ y.cell? ⟨w.heap.size, 1, none⟩ = some (.int .i64 off)) (first | exact held2 (by assumption) (by assumption) hb | assumption | exact ⟨(Kept.refl w1).drew, c0, c1⟩)
    (first | (go_at_call 22; refine (rname_any _ _ (by omega)).mono ?_; rintro e w' ⟨rfl, rfl⟩)
           | (go_at_call 23; refine (rTime_any _ _ (by omega) (by omega)).mono ?_; rintro e w' ⟨rfl, rfl⟩))
  clear c0 c1 hno hwn
  have D := Lib.hid (C.out.kept (Kept.refl w1).drew hb)
  have hby : w.heap.size < w1.drew.heap.size := hb
  have ky := kb.drew
  clear C kb hb
  generalize w1.drew = y at *
  have c1 := D.out.c1
  have c2 := D.out.c2
  have c3 := D.out.c3
  have c4 := D.out.c4
  go_wp2_with fail
  refine (rname_any _ _ (by omega)).mono ?_
  rintro e w2 ⟨rfl, rfl⟩
  have e5 := D.out.c5
  have e6 := D.out.c6
  have e7 := D.out.c7
  have e8 := D.out.c8
  have e9 := D.out.c9
  have e10 := D.out.c10
  have e11 := D.out.c11
  have e12 := D.out.c12
  have e13 := D.out.c13
  have e14 := D.out.c14
  go_wp2_with fail
  generalize hP : (ByteArray.mk (nt std).toArray ++ ByteArray.mk (tt (-off)).toArray ++ ByteArray.mk (nt dst).toArray) = P
  have HP := Lib.hid hP; clear hP
  have hs0 : ¬ 9223372036854775807 < P.size + 1 := by rw [← HP.out]; simp only [ByteArray.size_append, size_mk]; omega
  have hs1 : ¬ 9223372036854775807 < P.size + 1 + (rr fr).length := by rw [← HP.out]; simp only [ByteArray.size_append, size_mk]; omega
  have hs2 : ¬ 9223372036854775807 < P.size + 1 + (rr fr).length + 1 := by rw [← HP.out]; simp only [ByteArray.size_append, size_mk]; omega
  have hs3 : ¬ 9223372036854775807 < P.size + 1 + (rr fr).length + 1 + (rr to).length := by rw [← HP.out]; simp only [ByteArray.size_append, size_mk]; omega
  go_region_held3 (fun x => Kept w x ∧ w.heap.size < x.heap.size ∧ x.cell? ⟨w.heap.size, 5, none⟩ = some (.int .i64 fr.k) ∧ x.cell? ⟨w.heap.size, 6, none⟩ = some (.int .i64 fr.m) ∧ x.cell? ⟨w.heap.size, 7, none⟩ = some (.int .i64 fr.w) ∧ x.cell? ⟨w.heap.size, 8, none⟩ = some (.int .i64 fr.d) ∧ x.cell? ⟨w.heap.size, 9, none⟩ = some (.int .i64 fr.a) ∧ x.cell? ⟨w.heap.size, 10, none⟩ = some (.int .i64 to.k) ∧ x.cell? ⟨w.heap.size, 11, none⟩ = some (.int .i64 to.m) ∧ x.cell? ⟨w.heap.size, 12, none⟩ = some (.int .i64 to.w) ∧ x.cell? ⟨w.heap.size, 13, none⟩ = some (.int .i64 to.d) ∧ x.cell? ⟨w.heap.size, 14, none⟩ = some (.int .i64 to.a)) (first | exact held10' (by assumption) (by assumption) | assumption | exact ⟨ky.drew, hby, e5, e6, e7, e8, e9, e10, e11, e12, e13, e14⟩)
    (first | (go_at_call 24; refine (rrule_any _ _ (by first | exact H5.out | exact H6.out)).mono ?_; rintro e w' ⟨rfl, hk'⟩))
  obtain ⟨hKx, _⟩ := ‹Kept w _ ∧ _›
  go_wp2
  go_ret2
  exact ⟨ret_str2 (by rw [← HP.out]; apply ByteArray.ext; simp [ByteArray.data_append, rt_rr]), hKx⟩
set_option maxRecDepth 100000 in
set_option maxHeartbeats 4000000 in
theorem rWrite_ne (std : List UInt8) (off : Int) (dst : List UInt8) (ahead : Int) (fr to : Ru) (w : World) (h : mayZ ⟨std, off, true, dst, ahead, fr, to⟩ = true) (hne : ¬ ahead = off + 3600) (q2 : dst.length ≤ 1000) :
    Calls Tryd.prog 11 #[zoV ⟨std, off, true, dst, ahead, fr, to⟩] w fun e w' => e = .returned (.tuple #[.string ⟨(nt std ++ tt (-off) ++ nt dst ++ tt (-ahead) ++ rt fr ++ rt to).toArray⟩, .int .i64 0]) ∧ Kept w w' := by
  have hz := h
  unfold mayZ at hz
  simp only [Bool.and_eq_true, if_true] at hz
  obtain ⟨⟨h1, h2⟩, ⟨⟨h3, h4⟩, h5⟩, h6⟩ := hz
  obtain ⟨o1, o2⟩ := off_bd h2
  have q1 := mayN_len h1
  have h7 : offB ahead = true := by simpa [hne] using h4
  obtain ⟨p1, p2⟩ := off_bd h7
  have l6 := tt_len (n := -ahead) (by omega) (by omega)
  have l1 := nt_len h1
  have l2 := tt_len (n := -off) (by omega) (by omega)
  have l3 := nt_len h3
  have l4 := rr_len h5
  have l5 := rr_len h6
  have q3 := mayN_len h3
  have H5 := Lib.hid h5
  have H6 := Lib.hid h6
  have H := Lib.hid h
  clear h1 h2 h h3 h4 h5 h6 h7
  have hno : ¬ 9223372036854775807 < (nt std).length + (tt (-off)).length := by omega
  have hwn : IntKind.i64.wrap (-off) = -off := IntWalk.i64_in _ (by omega)
  have hw36 : wrap64 (off + 3600) = off + 3600 := by unfold wrap64; omega
  go_enter Tryd.func11, Tryd.ntmps11
  go_wp2_with fail
  refine (rMay_any ⟨std, off, true, dst, ahead, fr, to⟩ _ (by simp only; omega) (by simp only; omega)).mono ?_
  rintro e w1 ⟨rfl, k1⟩
  rw [H.out]
  have C := Lib.hid (Cs.of_new (z := ⟨std, off, true, dst, ahead, fr, to⟩) k1)
  have c0 := C.out.c0
  have c1 := C.out.c1
  have hb : w.heap.size < w1.heap.size := by have := k1.size; simp at this; omega
  have kb := k1.back; clear k1
  go_wp2_with fail
  go_region_held3 (fun y => Kept w1 y ∧ y.cell? ⟨w.heap.size, 0, none⟩ = some (.string ⟨std.toArray⟩) ∧ y.cell? ⟨w.heap.size, 1, none⟩ = some (.int .i64 off)) (first | exact held2 (by assumption) (by assumption) hb | assumption | exact ⟨(Kept.refl w1).drew, c0, c1⟩)
    (first | (go_at_call 22; refine (rname_any _ _ (by omega)).mono ?_; rintro e w' ⟨rfl, rfl⟩)
           | (go_at_call 23; refine (rTime_any _ _ (by omega) (by omega)).mono ?_; rintro e w' ⟨rfl, rfl⟩))
  clear c0 c1 hno hwn
  have D := Lib.hid (C.out.kept (Kept.refl w1).drew hb)
  have hby : w.heap.size < w1.drew.heap.size := hb
  have ky := kb.drew
  clear C kb hb
  generalize w1.drew = y at *
  have c1 := D.out.c1
  have c2 := D.out.c2
  have c3 := D.out.c3
  have c4 := D.out.c4
  go_wp2_with fail
  refine (rname_any _ _ (by omega)).mono ?_
  rintro e w2 ⟨rfl, rfl⟩
  have hwa : wrap64 (-ahead) = -ahead := by unfold wrap64; omega
  go_wp2_with fail
  refine (rTime_any _ _ (by omega) (by omega)).mono ?_
  rintro e y2 ⟨rfl, rfl⟩
  have e5 := D.out.c5
  have e6 := D.out.c6
  have e7 := D.out.c7
  have e8 := D.out.c8
  have e9 := D.out.c9
  have e10 := D.out.c10
  have e11 := D.out.c11
  have e12 := D.out.c12
  have e13 := D.out.c13
  have e14 := D.out.c14
  go_wp2_with fail
  generalize hP : (ByteArray.mk (nt std).toArray ++ ByteArray.mk (tt (-off)).toArray ++ ByteArray.mk (nt dst).toArray ++ ByteArray.mk (tt (-ahead)).toArray) = P
  have HP := Lib.hid hP; clear hP
  have hs0 : ¬ 9223372036854775807 < P.size + 1 := by rw [← HP.out]; simp only [ByteArray.size_append, size_mk]; omega
  have hs1 : ¬ 9223372036854775807 < P.size + 1 + (rr fr).length := by rw [← HP.out]; simp only [ByteArray.size_append, size_mk]; omega
  have hs2 : ¬ 9223372036854775807 < P.size + 1 + (rr fr).length + 1 := by rw [← HP.out]; simp only [ByteArray.size_append, size_mk]; omega
  have hs3 : ¬ 9223372036854775807 < P.size + 1 + (rr fr).length + 1 + (rr to).length := by rw [← HP.out]; simp only [ByteArray.size_append, size_mk]; omega
  go_region_held3 (fun x => Kept w x ∧ w.heap.size < x.heap.size ∧ x.cell? ⟨w.heap.size, 5, none⟩ = some (.int .i64 fr.k) ∧ x.cell? ⟨w.heap.size, 6, none⟩ = some (.int .i64 fr.m) ∧ x.cell? ⟨w.heap.size, 7, none⟩ = some (.int .i64 fr.w) ∧ x.cell? ⟨w.heap.size, 8, none⟩ = some (.int .i64 fr.d) ∧ x.cell? ⟨w.heap.size, 9, none⟩ = some (.int .i64 fr.a) ∧ x.cell? ⟨w.heap.size, 10, none⟩ = some (.int .i64 to.k) ∧ x.cell? ⟨w.heap.size, 11, none⟩ = some (.int .i64 to.m) ∧ x.cell? ⟨w.heap.size, 12, none⟩ = some (.int .i64 to.w) ∧ x.cell? ⟨w.heap.size, 13, none⟩ = some (.int .i64 to.d) ∧ x.cell? ⟨w.heap.size, 14, none⟩ = some (.int .i64 to.a)) (first | exact held10' (by assumption) (by assumption) | assumption | exact ⟨ky.drew, hby, e5, e6, e7, e8, e9, e10, e11, e12, e13, e14⟩)
    (first | (go_at_call 24; refine (rrule_any _ _ (by first | exact H5.out | exact H6.out)).mono ?_; rintro e w' ⟨rfl, hk'⟩))
  obtain ⟨hKx, _⟩ := ‹Kept w _ ∧ _›
  go_wp2
  go_ret2
  exact ⟨ret_str2 (by rw [← HP.out]; apply ByteArray.ext; simp [ByteArray.data_append, rt_rr]), hKx⟩
theorem rWrite_yes (z : Zo) (w : World) (h : mayZ z = true) (q2 : z.dst.length ≤ 1000) :
    Calls Tryd.prog 11 #[zoV z] w fun e w' => e = .returned (.tuple #[.string ⟨(wt z).toArray⟩, .int .i64 0]) ∧ Kept w w' := by
  obtain ⟨std, off, has, dst, ahead, fr, to⟩ := z
  cases has with
  | false => exact rWrite_plain std off dst ahead fr to w h q2
  | true =>
    unfold wt wtA
    simp only [if_true]
    by_cases e : ahead = off + 3600
    · subst e
      rw [if_pos rfl, List.append_nil]
      exact rWrite_eq std off dst fr to w h q2
    · rw [if_neg e]
      exact rWrite_ne std off dst ahead fr to w h e q2
end Go.Proofs.YtomnjdammfiadaaDoor
