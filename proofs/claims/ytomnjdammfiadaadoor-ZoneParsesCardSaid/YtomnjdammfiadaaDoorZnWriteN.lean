/- Contracts of package zone: a zone's text. -/
import Derived.Test.YtomnjdammfiadaaDoorZnWriteE
namespace Go.Proofs.YtomnjdammfiadaaDoor
open Go.ChangeShapes Go.WideShapes Go.ChangeAt Go.RowKit
open Zn
set_option maxRecDepth 100000 in
set_option maxHeartbeats 4000000 in
theorem write_ne (std : List UInt8) (off : Int) (dst : List UInt8) (ahead : Int) (fr to : Ru) (w : World) (h : mayZ ⟨std, off, true, dst, ahead, fr, to⟩ = true) (hne : ¬ ahead = off + 3600) (htab : Tab w) :
    Calls Tryd.prog 10 #[zoV ⟨std, off, true, dst, ahead, fr, to⟩] w fun e w' => e = .returned (.tuple #[.string ⟨(nt std ++ tt (-off) ++ nt dst ++ tt (-ahead) ++ rt fr ++ rt to).toArray⟩, .int .i64 0]) ∧ Kept w w' := by
  have HT := Lib.hid htab; clear htab
  have hz := h
  unfold mayZ at hz
  simp only [Bool.and_eq_true, if_true] at hz
  obtain ⟨⟨h1, h2⟩, ⟨⟨h3, h4⟩, h5⟩, h6⟩ := hz
  obtain ⟨o1, o2⟩ := off_bd h2
  have h7 : offB ahead = true := by simpa [hne] using h4
  obtain ⟨p1, p2⟩ := off_bd h7
  have l6 := tt_len (n := -ahead) (by omega) (by omega)
  have l1 := nt_len h1
  have l2 := tt_len (n := -off) (by omega) (by omega)
  have l3 := nt_len h3
  have l4 := rt_len h5
  have l5 := rt_len h6
  have H1 := Lib.hid h1
  have H3 := Lib.hid h3
  have H5 := Lib.hid h5
  have H6 := Lib.hid h6
  have H := Lib.hid h
  clear h1 h2 h3 h4 h5 h6 h7 h
  have hno : ¬ 9223372036854775807 < (nt std).length + (tt (-off)).length := by omega
  have hwn : IntKind.i64.wrap (-off) = -off := IntWalk.i64_in _ (by omega)
  have hw36 : wrap64 (off + 3600) = off + 3600 := by unfold wrap64; omega
  go_enter Tryd.func10, Tryd.ntmps10
  go_wp2_with fail
  refine (may_any ⟨std, off, true, dst, ahead, fr, to⟩ _).mono ?_
  rintro e w1 ⟨rfl, k1⟩
  rw [H.out]
  have C := Lib.hid (Cs.of_new (z := ⟨std, off, true, dst, ahead, fr, to⟩) k1)
  have c0 := C.out.c0
  have c1 := C.out.c1
  have c2 := C.out.c2
  have hb : w.heap.size < w1.heap.size := by have := k1.size; simp at this; omega
  have kb := k1.back; clear k1
  have ht := kb.tab' HT.out
  go_wp2_with fail
  go_region_held3 (fun y => Kept w1 y ∧ y.cell? ⟨w.heap.size, 0, none⟩ = some (.string ⟨std.toArray⟩) ∧ y.cell? ⟨w.heap.size, 1, none⟩ = some (.int .i64 off) ∧ y.cell? ⟨w.heap.size, 2, none⟩ = some (.bool true) ∧ Tab y) (first | exact held3 (by assumption) (by assumption) hb | assumption | exact ⟨(Kept.refl w1).drew, c0, c1, c2, ht⟩)
    (first | (go_at_call 19; refine (nameText_any _ _ H1.out).mono ?_; rintro e w' ⟨rfl, rfl⟩)
           | (go_at_call 20; refine (timeText_any _ _ (by omega) (by omega) (by go_split_ands; assumption)).mono ?_; rintro e w' ⟨rfl, hk'⟩))
  rename Kept w1 _ ∧ _ => hSy
  clear c0 c1 c2 ht hno hwn hk'
  have hK := hSy.1
  have D := Lib.hid (C.out.kept hK hb)
  clear C
  have hby := Nat.lt_of_lt_of_le hb hK.size
  have ky := kb.trans hK
  have ty := Lib.hid (ky.tab' HT.out)
  clear hSy hK kb hb
  have c1 := D.out.c1
  have c2 := D.out.c2
  have c3 := D.out.c3
  have c4 := D.out.c4
  go_wp2_with fail
  refine (nameText_any _ _ H3.out).mono ?_
  rintro e w2 ⟨rfl, rfl⟩
  have hwa : wrap64 (-ahead) = -ahead := by unfold wrap64; omega
  go_wp2_with fail
  refine (timeText_any _ _ (by omega) (by omega) ty.out).mono ?_
  rintro e y2 ⟨rfl, k2⟩
  have D2 := Lib.hid (D.out.kept k2 hby)
  have hby2 : w.heap.size < y2.heap.size := Nat.lt_of_lt_of_le hby k2.size
  have ky2 := ky.trans k2
  have ty2 := ky2.tab' HT.out
  clear c1 c2 c3 c4 D k2 ky hby ty
  have e5 := D2.out.c5
  have e6 := D2.out.c6
  have e7 := D2.out.c7
  have e8 := D2.out.c8
  have e9 := D2.out.c9
  have e10 := D2.out.c10
  have e11 := D2.out.c11
  have e12 := D2.out.c12
  have e13 := D2.out.c13
  have e14 := D2.out.c14
  go_wp2_with fail
  generalize hP : (ByteArray.mk (nt std).toArray ++ ByteArray.mk (tt (-off)).toArray ++ ByteArray.mk (nt dst).toArray ++ ByteArray.mk (tt (-ahead)).toArray) = P
  have HP := Lib.hid hP; clear hP
  have hs1 : ¬ 9223372036854775807 < P.size + (rt fr).length := by rw [← HP.out]; simp only [ByteArray.size_append, size_mk]; omega
  have hs2 : ¬ 9223372036854775807 < P.size + (rt fr).length + (rt to).length := by rw [← HP.out]; simp only [ByteArray.size_append, size_mk]; omega
  go_region_held3 (fun x => Kept w x ∧ w.heap.size < x.heap.size ∧ x.cell? ⟨w.heap.size, 5, none⟩ = some (.int .i64 fr.k) ∧ x.cell? ⟨w.heap.size, 6, none⟩ = some (.int .i64 fr.m) ∧ x.cell? ⟨w.heap.size, 7, none⟩ = some (.int .i64 fr.w) ∧ x.cell? ⟨w.heap.size, 8, none⟩ = some (.int .i64 fr.d) ∧ x.cell? ⟨w.heap.size, 9, none⟩ = some (.int .i64 fr.a) ∧ x.cell? ⟨w.heap.size, 10, none⟩ = some (.int .i64 to.k) ∧ x.cell? ⟨w.heap.size, 11, none⟩ = some (.int .i64 to.m) ∧ x.cell? ⟨w.heap.size, 12, none⟩ = some (.int .i64 to.w) ∧ x.cell? ⟨w.heap.size, 13, none⟩ = some (.int .i64 to.d) ∧ x.cell? ⟨w.heap.size, 14, none⟩ = some (.int .i64 to.a) ∧ Tab x) (first | exact held10 (by assumption) (by assumption) | assumption | exact ⟨ky2.drew, hby2, e5, e6, e7, e8, e9, e10, e11, e12, e13, e14, ty2⟩)
    (first | (go_at_call 21; refine (ruleText_any _ _ (by first | exact H5.out | exact H6.out) (by go_split_ands; assumption)).mono ?_; rintro e w' ⟨rfl, hk'⟩))
  obtain ⟨hKx, _⟩ := ‹Kept w _ ∧ _›
  go_wp2
  go_ret2
  exact ⟨ret_str2 (by rw [← HP.out]; simp only [app_mk]), hKx⟩
theorem write_yes (z : Zo) (w : World) (h : mayZ z = true) (htab : Tab w) :
    Calls Tryd.prog 10 #[zoV z] w fun e w' => e = .returned (.tuple #[.string ⟨(wt z).toArray⟩, .int .i64 0]) ∧ Kept w w' := by
  obtain ⟨std, off, has, dst, ahead, fr, to⟩ := z
  cases has with
  | false => exact write_plain std off dst ahead fr to w h htab
  | true =>
    unfold wt wtA
    simp only [if_true]
    by_cases e : ahead = off + 3600
    · subst e
      rw [if_pos rfl, List.append_nil]
      exact write_eq std off dst fr to w h htab
    · rw [if_neg e]
      exact write_ne std off dst ahead fr to w h e htab
end Go.Proofs.YtomnjdammfiadaaDoor
