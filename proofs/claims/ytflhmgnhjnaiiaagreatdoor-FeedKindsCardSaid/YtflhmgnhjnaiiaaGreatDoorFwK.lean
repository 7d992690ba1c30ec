/- The law FeedKinds, walked. -/
import Derived.Test.YtflhmgnhjnaiiaaGreatDoorFwO
import Derived.Test.YtflhmgnhjnaiiaaGreatDoorFwDE
set_option linter.unusedSimpArgs false
set_option linter.unusedVariables false
namespace Go.Proofs.YtflhmgnhjnaiiaaGreatDoor.Fd
open Go.ChangeShapes Go.WideShapes Go.ChangeAt Go.RowKit
open En Xm
theorem one_str (id ti li te : B) : (⟨#[60, 114, 115, 115, 62, 60, 99, 104, 97, 110, 110, 101, 108, 62, 60, 116, 105, 116, 108, 101, 62, 70, 60, 47, 116, 105, 116, 108, 101, 62, 60, 105, 116, 101, 109, 62, 60, 103, 117, 105, 100, 62]⟩ ++ ⟨id.toArray⟩ ++ ⟨#[60, 47, 103, 117, 105, 100, 62, 60, 116, 105, 116, 108, 101, 62]⟩ ++ ⟨ti.toArray⟩ ++ ⟨#[60, 47, 116, 105, 116, 108, 101, 62, 60, 108, 105, 110, 107, 62]⟩ ++ ⟨li.toArray⟩ ++ ⟨#[60, 47, 108, 105, 110, 107, 62, 60, 100, 101, 115, 99, 114, 105, 112, 116, 105, 111, 110, 62]⟩ ++ ⟨te.toArray⟩ ++ ⟨#[60, 47, 100, 101, 115, 99, 114, 105, 112, 116, 105, 111, 110, 62, 60, 47, 105, 116, 101, 109, 62, 60, 47, 99, 104, 97, 110, 110, 101, 108, 62, 60, 47, 114, 115, 115, 62]⟩ : ByteArray) = ⟨(kOne id ti li te).toArray⟩ := by
  apply ByteArray.ext
  simp [ByteArray.data_append, kOne, opn, cls, sRss, sChan, sTitle, sItem, sGuid, sLink, sDesc, sF]
theorem two_str (id ti li te : B) (h : enc li = li) : (⟨#[60, 102, 101, 101, 100, 62, 60, 116, 105, 116, 108, 101, 62, 70, 60, 47, 116, 105, 116, 108, 101, 62, 60, 101, 110, 116, 114, 121, 62, 60, 105, 100, 62]⟩ ++ ⟨id.toArray⟩ ++ ⟨#[60, 47, 105, 100, 62, 60, 116, 105, 116, 108, 101, 62]⟩ ++ ⟨ti.toArray⟩ ++ ⟨#[60, 47, 116, 105, 116, 108, 101, 62, 60, 108, 105, 110, 107, 32, 104, 114, 101, 102, 61, 34]⟩ ++ ⟨li.toArray⟩ ++ ⟨#[34, 47, 62, 60, 115, 117, 109, 109, 97, 114, 121, 62]⟩ ++ ⟨te.toArray⟩ ++ ⟨#[60, 47, 115, 117, 109, 109, 97, 114, 121, 62, 60, 47, 101, 110, 116, 114, 121, 62, 60, 47, 102, 101, 101, 100, 62]⟩ : ByteArray) = ⟨(kTwo id ti li te).toArray⟩ := by
  apply ByteArray.ext
  simp [ByteArray.data_append, kTwo, lkE, wrA, h, opn, cls, sFeed, sTitle, sEntry, sId, sLink, sSum, sHref, sF]
theorem rparse_nil : Sm.rparse [] = none := by
  unfold Sm.rparse
  rw [show Sm.rread [] = none from rfl]
  rfl
set_option maxRecDepth 100000 in
set_option maxHeartbeats 8000000 in
theorem kinds9_walk (id ti li te : B) (w : World) (h0 : id.length ≤ maxLen) (h1 : ti.length ≤ maxLen) (h2 : li.length ≤ maxLen) (h3 : te.length ≤ maxLen) (hE : EX w.heap.size w) :
    Calls Tryz.prog 3 #[sV id, sV ti, sV li, sV te] w fun e w' => e = .returned (.bool true) ∧ Kept w w' := by
  have HE := Lib.hid hE
  clear hE
  go_enter Tryz.func3, Tryz.ntmps3
  go_wp2_with fail
  refine (fawake_any w HE.out).mono ?_
  rintro e x1 ⟨rfl, k1⟩
  have K1 := Lib.hid k1
  clear k1
  go_wp2_with fail
  refine (word_any id x1 h0).mono ?_
  rintro e x2 ⟨rfl, rfl⟩
  go_wp2_with fail
  refine (word_any ti x1 h1).mono ?_
  rintro e x2 ⟨rfl, rfl⟩
  go_wp2_with fail
  refine (word_any li x1 h2).mono ?_
  rintro e x2 ⟨rfl, rfl⟩
  go_wp2_with fail
  refine (word_any te x1 h3).mono ?_
  rintro e x2 ⟨rfl, rfl⟩
  clear h0 h1 h2 h3
  cases w0 : isW id with
  | false =>
    clear w0
    go_wp2
    go_ret
    exact ⟨rfl, K1.out⟩
  | true =>
  cases w1 : isW ti with
  | false =>
    clear w0 w1
    go_wp2
    go_ret
    exact ⟨rfl, K1.out⟩
  | true =>
  cases w2 : isW li with
  | false =>
    clear w0 w1 w2
    go_wp2
    go_ret
    exact ⟨rfl, K1.out⟩
  | true =>
  cases w3 : isW te with
  | false =>
    clear w0 w1 w2 w3
    go_wp2
    go_ret
    exact ⟨rfl, K1.out⟩
  | true =>
  obtain ⟨d0, l0⟩ := isW_wd w0
  obtain ⟨d1, l1⟩ := isW_wd w1
  obtain ⟨d2, l2⟩ := isW_wd w2
  obtain ⟨d3, l3⟩ := isW_wd w3
  clear w0 w1 w2 w3
  have HP := Lib.hid (one_rd Sm.rparse d0 d1 d2 d3 l0 l1 l2 l3)
  have HM := Lib.hid (two_rd Sm.rparse rparse_nil d0 d1 d2 d3 l0 l1 l2 l3)
  have HW := Lib.hid (wd_enc d2)
  clear d0 d1 d2 d3
  go_upto_region 10 with (fail)
  rw [one_str, two_str _ _ _ _ HW.out]
  have LA := Nat.le_trans (one_len id ti li te l0 l1 l2 l3) (show 1000 ≤ 100000 by decide)
  have LB := Nat.le_trans (two_len id ti li te l0 l1 l2 l3) (show 1000 ≤ 100000 by decide)
  generalize kOne id ti li te = dA at *
  generalize kTwo id ti li te = dB at *
  clear l0 l1 l2 l3 HW
  obtain ⟨ca, ya, hca, ka, ha⟩ := to_bytes dA x1
  have HA := Lib.hid (fread_any _ dA.length ca dA ya ((HE.out.kept (K1.out.trans ka)).mono (K1.out.trans ka).size) rfl LA (fun y k => (ha.kept k).conv))
  rw [HP.out] at HA
  have KA := Lib.hid (K1.out.trans ka)
  clear ka ha K1 LA HP
  go_wp2_with fail
  refine HA.out.mono ?_
  rintro e xa ⟨kxa, va, rfl, oa⟩
  have KB := Lib.hid (KA.out.trans kxa)
  have RA := Lib.hid oa.rd
  obtain ⟨aa, cca, rfl⟩ := oa.slice
  clear oa kxa KA HA hca
  generalize hes : [(id, ti, li, te, (0 : Int))] = es at *
  have HES := Lib.hid hes
  have hel : es.length ≤ 1000000 := by rw [← hes]; simp
  clear hes
  have F3 := Lib.hid (show Fb xa.heap.size sF (.slice aa es.length cca) (xa.alloc (.cells #[sV sF, .slice aa es.length cca] 26)) from World.alloc_heap_new xa _)
  have k3 := (Kept.refl xa).alloc (.cells #[sV sF, .slice aa es.length cca] 26)
  have KC := Lib.hid (KB.out.trans k3); have RC := Lib.hid (RA.out.kept k3)
  clear k3 KB RA
  go_upto_region 11 with (fail)
  generalize hb : xa.heap.size = b at *
  rw [show xa.alloc (.cells #[.string ⟨sF.toArray⟩, .slice aa es.length cca] 26) = xa.alloc (.cells #[sV sF, .slice aa es.length cca] 26) from rfl]
  generalize xa.alloc (.cells #[sV sF, .slice aa es.length cca] 26) = x3 at *
  clear hb xa
  obtain ⟨cb, yb, hcb, kb, hb⟩ := to_bytes dB x3
  have HB := Lib.hid (fread_any _ dB.length cb dB yb ((HE.out.kept (KC.out.trans kb)).mono (KC.out.trans kb).size) rfl LB (fun y k => (hb.kept k).conv))
  rw [HM.out] at HB
  have KD := Lib.hid (KC.out.trans kb); have FD := Lib.hid (F3.out.kept kb); have RD := Lib.hid (RC.out.kept kb)
  clear kb hb LB HM KC F3 RC
  go_wp2_with fail
  refine HB.out.mono ?_
  rintro e xb ⟨kxb, vb, rfl, ob⟩
  have KE := Lib.hid (KD.out.trans kxb); have FE := Lib.hid (FD.out.kept kxb); have RE := Lib.hid (RD.out.kept kxb)
  have SE := Lib.hid ob.rd
  obtain ⟨ab, ccb, rfl⟩ := ob.slice
  clear ob kxb KD HB hcb FD RD
  have F5 := Lib.hid (show Fb xb.heap.size sF (.slice ab es.length ccb) (xb.alloc (.cells #[sV sF, .slice ab es.length ccb] 26)) from World.alloc_heap_new xb _)
  have k5 := (Kept.refl xb).alloc (.cells #[sV sF, .slice ab es.length ccb] 26)
  have KF := Lib.hid (KE.out.trans k5); have FF := Lib.hid (FE.out.kept k5); have RF := Lib.hid (RE.out.kept k5); have SF := Lib.hid (SE.out.kept k5)
  clear k5 KE FE RE SE
  go_upto_region 12 with (fail)
  generalize hb : xb.heap.size = b2 at *
  rw [show xb.alloc (.cells #[.string ⟨sF.toArray⟩, .slice ab es.length ccb] 26) = xb.alloc (.cells #[sV sF, .slice ab es.length ccb] 26) from rfl]
  generalize xb.alloc (.cells #[sV sF, .slice ab es.length ccb] 26) = x5 at *
  clear hb xb
  have NV := Lib.hid (show EnRd (.slice (some ⟨x5.heap.size, 0, none⟩) 1 1) es (x5.alloc (.cells (e5 (id, ti, li, te, 0)) 32)) by rw [← HES.out]; exact en_new x5 _)
  have k6 := (Kept.refl x5).alloc (.cells (e5 (id, ti, li, te, 0)) 32)
  have KG := Lib.hid (KF.out.trans k6); have FG := Lib.hid (FF.out.kept k6); have GG := Lib.hid (F5.out.kept k6); have RG := Lib.hid (RF.out.kept k6); have SG := Lib.hid (SF.out.kept k6)
  have hz6 : (x5.alloc (.cells (e5 (id, ti, li, te, 0)) 32)).heap.size = x5.heap.size + 1 := by simp
  clear k6 KF FF F5 RF SF HES
  go_upto_region 13 with (fail)
  rw [show x5.alloc (.cells #[sV id, sV ti, sV li, sV te, .int .i64 0] 32) = x5.alloc (.cells (e5 (id, ti, li, te, 0)) 32) from rfl]
  generalize x5.alloc (.cells (e5 (id, ti, li, te, 0)) 32) = x6 at *
  generalize x5.heap.size = b5 at *
  clear x5
  have F7 := Lib.hid (show Fb (b5 + 1) sF (.slice (some ⟨b5, 0, none⟩) 1 1) (x6.alloc (.cells #[sV sF, .slice (some ⟨b5, 0, none⟩) 1 1] 26)) by rw [← hz6]; exact World.alloc_heap_new x6 _)
  have k7 := (Kept.refl x6).alloc (.cells #[sV sF, .slice (some ⟨b5, 0, none⟩) 1 1] 26)
  have KH := Lib.hid (KG.out.trans k7); have FH := Lib.hid (FG.out.kept k7); have GH := Lib.hid (GG.out.kept k7); have RH := Lib.hid (RG.out.kept k7); have SH := Lib.hid (SG.out.kept k7); have NH := Lib.hid (NV.out.kept k7)
  clear k7 KG FG GG RG SG NV hz6
  rw [show x6.alloc (.cells #[.string ⟨#[70]⟩, .slice (some ⟨b5, 0, none⟩) 1 1] 26) = x6.alloc (.cells #[sV sF, .slice (some ⟨b5, 0, none⟩) 1 1] 26) from rfl]
  generalize x6.alloc (.cells #[sV sF, .slice (some ⟨b5, 0, none⟩) 1 1] 26) = x7 at *
  clear x6
  have HS1 := Lib.hid (fsame_any sF sF es es _ _ x7 RH.out NH.out hel hel)
  have HS2 := Lib.hid (fun x (k : Kept x7 x) => fsame_any sF sF es es _ _ x (SH.out.kept k) (NH.out.kept k) hel hel)
  obtain ⟨c0, c1⟩ := FH.out.cells
  obtain ⟨f0, f1⟩ := F7.out.cells
  generalize es.length = n at *
  clear HE RH SH NH
  go_wp2_with fail
  refine HS1.out.mono ?_
  rintro e x8 ⟨rfl, k8⟩
  rw [decide_eq_true rfl]
  have K8 := Lib.hid k8
  clear HS1 c0 c1 f0 f1 k8
  obtain ⟨g0, g1⟩ := (GH.out.kept K8.out).cells
  obtain ⟨f0, f1⟩ := (F7.out.kept K8.out).cells
  go_wp2_with fail
  refine (HS2.out x8 K8.out).mono ?_
  rintro e x9 ⟨rfl, k9⟩
  rw [decide_eq_true rfl]
  have KZ := Lib.hid ((KH.out.trans K8.out).trans k9)
  clear HS2 KH K8 k9 g0 g1 f0 f1 F7 GH FH
  go_wp2
  go_ret
  exact ⟨rfl, KZ.out⟩
end Go.Proofs.YtflhmgnhjnaiiaaGreatDoor.Fd
