/- PartSplits: any bytes are the kinds and bodies, or none, that the document says. -/
import Derived.Test.YtgpocnnolieijaaGreatDoorPtSm
import Derived.Test.YtgpocnnolieijaaGreatDoorPtRt
set_option linter.unusedSimpArgs false
set_option linter.unusedVariables false
namespace Go.Proofs.YtgpocnnolieijaaGreatDoor.Pt
open Go.ChangeShapes Go.WideShapes Go.ChangeAt Go.RowKit Go.Shelf
open Hd (SRd OwnS)
theorem sp_len {b x : B} {ks ls : List B} (h : Sp b x ks ls) : ks.length ≤ 1000000 ∧ ls.length ≤ 1000000 := by
  rcases h with ⟨h1, h2⟩ | ⟨_, rfl, rfl⟩
  · have := (spl_iff.1 h1).1
    have := (okP_iff.1 this).1
    rw [List.length_zip] at this
    omega
  · simp
set_option maxRecDepth 100000 in
set_option maxHeartbeats 4000000 in
theorem splits15_walk (v : Value) (b x : B) (w : World) (hR : BRd v b w) (hcap : ∀ a n c, v = .slice a n c → c ≤ 9223372036854775807) (hxl : x.length ≤ maxLen) (hE : Env w) :
    Calls Tryz.prog 4 #[v, sV x] w fun e w' => e = .returned (.bool true) ∧ Kept w w' := by
  have hxs : (ByteArray.mk x.toArray).size = x.length := List.size_toArray
  have HR := Lib.hid hR
  have HE := Lib.hid hE
  have HA := Lib.hid (awake15_any w hE)
  have HCap := Lib.hid hcap
  obtain ⟨va, vc, rfl⟩ := hR.slice
  clear hR hE hcap
  go_enter Tryz.func4, Tryz.ntmps4
  go_wp2_with fail
  refine HA.out.mono ?_
  rintro e x1 ⟨rfl, k1⟩
  have K1 := Lib.hid k1
  clear k1 HA
  by_cases h1 : (2000 : Int) < b.length
  · go_wp2
    go_ret
    exact ⟨rfl, K1.out⟩
  by_cases h2 : (100 : Int) < x.length
  · go_wp2
    go_ret
    exact ⟨rfl, K1.out⟩
  have HS := Lib.hid (split_any _ b x x1 (HR.out.kept K1.out) (HE.out.kept K1.out) (by omega) (by omega) HCap.out)
  have HRs := Lib.hid (fun (y : World) (k : Kept x1 y) => rsplit_any _ b x y (HR.out.kept (K1.out.trans k)) (by omega) (by omega))
  go_wp2_with fail
  refine HS.out.mono ?_
  rintro e y1 ⟨kv, lv, ks, ls, rfl, hks, hls, hsp, k1⟩
  have K2 := Lib.hid k1
  have SK := Lib.hid hks
  have LK := Lib.hid hls
  obtain ⟨ka, kc, rfl⟩ := own_slice hks
  obtain ⟨la, lc, rfl⟩ := hls.slice
  clear hks hls k1 HS
  go_wp2_with fail
  refine (HRs.out y1 K2.out).mono ?_
  rintro e y2 ⟨kv2, lv2, ks2, ls2, rfl, hks2, hls2, hsp2, k2⟩
  obtain ⟨rfl, rfl⟩ := hsp.one hsp2
  have K3 := Lib.hid (K2.out.trans k2)
  have hln := sp_len hsp
  have HSm := Lib.hid (same_any _ _ kv2 lv2 ks ls y2 (OwnS.kept SK.out k2).rd (LK.out.kept k2).rd hks2.rd hls2.rd hln.1 hln.2)
  obtain ⟨ka2, kc2, rfl⟩ := own_slice hks2
  obtain ⟨la2, lc2, rfl⟩ := hls2.slice
  generalize sE b x = E at *
  have b3 : (E == E) = true := by simp
  clear hks2 hls2 k2 hsp hsp2 HRs SK LK
  go_wp2_with fail
  refine HSm.out.mono ?_
  rintro e y3 ⟨rfl, k3⟩
  go_wp2
  go_ret
  exact ⟨rfl, K1.out.trans (K3.out.trans k3)⟩
end Go.Proofs.YtgpocnnolieijaaGreatDoor.Pt
