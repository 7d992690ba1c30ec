/- The law FeedOthers, walked. -/
import Derived.Test.YtflhmgnhjnaiiaaGreatDoorFwB
import Derived.Test.YtflhmgnhjnaiiaaGreatDoorFwDE
set_option linter.unusedSimpArgs false
set_option linter.unusedVariables false
namespace Go.Proofs.YtflhmgnhjnaiiaaGreatDoor.Fd
open Go.ChangeShapes Go.WideShapes Go.ChangeAt Go.RowKit
open En Xm
theorem pl_str (id : B) : (⟨#[60, 114, 115, 115, 62, 60, 99, 104, 97, 110, 110, 101, 108, 62, 60, 116, 105, 116, 108, 101, 62, 70, 60, 47, 116, 105, 116, 108, 101, 62, 60, 105, 116, 101, 109, 62, 60, 103, 117, 105, 100, 62]⟩ ++ ⟨id.toArray⟩ ++ ⟨#[60, 47, 103, 117, 105, 100, 62, 60, 47, 105, 116, 101, 109, 62, 60, 47, 99, 104, 97, 110, 110, 101, 108, 62, 60, 47, 114, 115, 115, 62]⟩ : ByteArray) = ⟨(kPl id).toArray⟩ := by
  apply ByteArray.ext
  simp [ByteArray.data_append, kPl, opn, cls, sRss, sChan, sTitle, sItem, sGuid, sF]
theorem mo_str (nm te id : B) : (⟨#[60, 120, 58, 114, 115, 115, 62, 10, 60, 99, 104, 97, 110, 110, 101, 108, 62, 60]⟩ ++ ⟨nm.toArray⟩ ++ ⟨#[62]⟩ ++ ⟨te.toArray⟩ ++ ⟨#[60, 47]⟩ ++ ⟨nm.toArray⟩ ++ ⟨#[62, 32, 60, 116, 105, 116, 108, 101, 62, 70, 60, 47, 116, 105, 116, 108, 101, 62, 60, 33, 45, 45, 32, 105, 116, 101, 109, 32, 45, 45, 62, 60, 121, 58, 105, 116, 101, 109, 62, 32, 60, 113, 58, 103, 117, 105, 100, 62, 10]⟩ ++ ⟨id.toArray⟩ ++ ⟨#[32, 60, 47, 113, 58, 103, 117, 105, 100, 62, 60, 47, 121, 58, 105, 116, 101, 109, 62, 60, 47, 99, 104, 97, 110, 110, 101, 108, 62, 60, 47, 120, 58, 114, 115, 115, 62]⟩ : ByteArray) = ⟨(kMo nm te id).toArray⟩ := by
  apply ByteArray.ext
  simp [ByteArray.data_append, kMo, cmt, pad, opn, cls, xRss, sChan, sTitle, yItem, qGuid, sF]
theorem pl_len (id : B) (h : id.length ≤ 40) : (kPl id).length ≤ 100000 := by
  unfold kPl opn cls sRss sChan sTitle sItem sGuid sF
  simp only [List.length_append, List.length_cons, List.length_nil]
  omega
theorem mo_len (nm te id : B) (a : nm.length ≤ 40) (b : te.length ≤ 40) (c : id.length ≤ 40) : (kMo nm te id).length ≤ 100000 := by
  unfold kMo cmt pad opn cls xRss sChan sTitle yItem qGuid sF
  simp only [List.length_append, List.length_cons, List.length_nil]
  omega
theorem isW_wd {s : B} (h : isW s = true) : Wd' s ∧ s.length ≤ 40 := isW_iff.1 h
set_option maxRecDepth 100000 in
set_option maxHeartbeats 8000000 in
theorem others9_walk (nm te id : B) (w : World) (h0 : nm.length ≤ maxLen) (h1 : te.length ≤ maxLen) (h2 : id.length ≤ maxLen) (hE : EX w.heap.size w) :
    Calls Tryz.prog 5 #[sV nm, sV te, sV id] w fun e w' => e = .returned (.bool true) ∧ Kept w w' := by
  have HE := Lib.hid hE
  clear hE
  go_enter Tryz.func5, Tryz.ntmps5
  go_wp2_with fail
  refine (fawake_any w HE.out).mono ?_
  rintro e x1 ⟨rfl, k1⟩
  have K1 := Lib.hid k1
  clear k1
  go_wp2_with fail
  refine (word_any nm x1 h0).mono ?_
  rintro e x2 ⟨rfl, rfl⟩
  go_wp2_with fail
  refine (word_any te x1 h1).mono ?_
  rintro e x2 ⟨rfl, rfl⟩
  go_wp2_with fail
  refine (word_any id x1 h2).mono ?_
  rintro e x2 ⟨rfl, rfl⟩
  clear h0 h1 h2
  cases w0 : isW nm with
  | false =>
    clear w0
    go_wp2
    go_ret
    exact ⟨rfl, K1.out⟩
  | true =>
  cases w1 : isW te with
  | false =>
    clear w0 w1
    go_wp2
    go_ret
    exact ⟨rfl, K1.out⟩
  | true =>
  cases w2 : isW id with
  | false =>
    clear w0 w1 w2
    go_wp2
    go_ret
    exact ⟨rfl, K1.out⟩
  | true =>
  obtain ⟨d0, l0⟩ := isW_wd w0
  obtain ⟨d1, l1⟩ := isW_wd w1
  obtain ⟨d2, l2⟩ := isW_wd w2
  clear w0 w1 w2
  cases q0 : nm == [] with
  | true =>
    have e0 : nm.isEmpty = true := by simpa using q0
    clear q0 d0 d1 d2
    go_wp2
    go_ret
    exact ⟨rfl, K1.out⟩
  | false =>
  have e0 : nm.isEmpty = false := by simpa using q0
  cases q1 : nm == [105, 116, 101, 109] with
  | true =>
    clear d0 d1 d2
    go_wp2
    go_ret
    exact ⟨rfl, K1.out⟩
  | false =>
  cases q2 : nm == [116, 105, 116, 108, 101] with
  | true =>
    clear d0 d1 d2
    go_wp2
    go_ret
    exact ⟨rfl, K1.out⟩
  | false =>
  have HP := Lib.hid (pl_rd Sm.rparse d2 l2)
  have HM := Lib.hid (mo_rd Sm.rparse d0 (by simpa using q0) (by simpa [sItem] using q1) (by simpa [sTitle] using q2) d1 d2 l0 l1 l2)
  clear d0 d1 d2
  go_upto_region 9 with (fail)
  rw [pl_str, mo_str]
  have LA := pl_len id l2
  have LB := mo_len nm te id l0 l1 l2
  generalize kPl id = dA at *
  generalize kMo nm te id = dB at *
  clear q0 q1 q2 e0 l0 l1 l2
  obtain ⟨ca, ya, hca, ka, ha⟩ := to_bytes dA x1
  have HA := Lib.hid (fread_any _ dA.length ca dA ya ((HE.out.kept (K1.out.trans ka)).mono (K1.out.trans ka).size) rfl LA (fun y k => (ha.kept k).conv))
  rw [HP.out] at HA
  have KA := Lib.hid (K1.out.trans ka)
  clear ka ha K1 LA HP
  go_wp2_with fail
  refine HA.out.mono ?_
  rintro e xa ⟨kxa, va, rfl, oa⟩
  have KB := Lib.hid (KA.out.trans kxa)
  have RA := Lib.hid oa.rd
  obtain ⟨aa, cca, rfl⟩ := oa.slice
  clear oa kxa KA HA hca
  generalize hes : [(id, [], [], [], (0 : Int))] = es at *
  have hel : es.length ≤ 1000000 := by rw [← hes]; simp
  clear hes
  have F3 := Lib.hid (show Fb xa.heap.size sF (.slice aa es.length cca) (xa.alloc (.cells #[sV sF, .slice aa es.length cca] 26)) from World.alloc_heap_new xa _)
  have k3 := (Kept.refl xa).alloc (.cells #[sV sF, .slice aa es.length cca] 26)
  have KC := Lib.hid (KB.out.trans k3); have RC := Lib.hid (RA.out.kept k3)
  clear k3 KB RA
  go_upto_region 10 with (fail)
  generalize hb : xa.heap.size = b at *
  rw [show xa.alloc (.cells #[.string ⟨sF.toArray⟩, .slice aa es.length cca] 26) = xa.alloc (.cells #[sV sF, .slice aa es.length cca] 26) from rfl]
  generalize xa.alloc (.cells #[sV sF, .slice aa es.length cca] 26) = x3 at *
  clear hb xa
  obtain ⟨cb, yb, hcb, kb, hb⟩ := to_bytes dB x3
  have HB := Lib.hid (fread_any _ dB.length cb dB yb ((HE.out.kept (KC.out.trans kb)).mono (KC.out.trans kb).size) rfl LB (fun y k => (hb.kept k).conv))
  rw [HM.out] at HB
  have KD := Lib.hid (KC.out.trans kb); have FD := Lib.hid (F3.out.kept kb); have RD := Lib.hid (RC.out.kept kb)
  clear kb hb LB HM KC F3 RC
  go_wp2_with fail
  refine HB.out.mono ?_
  rintro e xb ⟨kxb, vb, rfl, ob⟩
  have KE := Lib.hid (KD.out.trans kxb); have FE := Lib.hid (FD.out.kept kxb); have RE := Lib.hid (RD.out.kept kxb)
  have SE := Lib.hid ob.rd
  obtain ⟨ab, ccb, rfl⟩ := ob.slice
  clear ob kxb KD HB hcb FD RD
  have F5 := Lib.hid (show Fb xb.heap.size sF (.slice ab es.length ccb) (xb.alloc (.cells #[sV sF, .slice ab es.length ccb] 26)) from World.alloc_heap_new xb _)
  have k5 := (Kept.refl xb).alloc (.cells #[sV sF, .slice ab es.length ccb] 26)
  have KF := Lib.hid (KE.out.trans k5); have FF := Lib.hid (FE.out.kept k5); have RF := Lib.hid (RE.out.kept k5); have SF := Lib.hid (SE.out.kept k5)
  clear k5 KE FE RE SE
  go_upto_region 11 with (fail)
  generalize hb : xb.heap.size = b2 at *
  rw [show xb.alloc (.cells #[.string ⟨sF.toArray⟩, .slice ab es.length ccb] 26) = xb.alloc (.cells #[sV sF, .slice ab es.length ccb] 26) from rfl]
  generalize xb.alloc (.cells #[sV sF, .slice ab es.length ccb] 26) = x5 at *
  clear hb xb
  obtain ⟨c0, c1⟩ := FF.out.cells
  obtain ⟨g0, g1⟩ := F5.out.cells
  have HS := Lib.hid (fsame_any sF sF es es _ _ x5 RF.out SF.out hel hel)
  clear RF SF FF F5 HE
  generalize es.length = n at *
  go_wp2_with fail
  refine HS.out.mono ?_
  rintro e x6 ⟨rfl, k6⟩
  rw [decide_eq_true rfl]
  have KZ := Lib.hid (KF.out.trans k6)
  clear HS KF k6 c0 c1 g0 g1
  go_wp2
  go_ret
  exact ⟨rfl, KZ.out⟩
end Go.Proofs.YtflhmgnhjnaiiaaGreatDoor.Fd
