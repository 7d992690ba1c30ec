import Derived.Test.YtjlpkgipdkjfhaaGreatDoorRt
import Derived.Test.YtjlpkgipdkjfhaaGreatDoorQpE
set_option linter.unusedSimpArgs false
set_option linter.unusedVariables false
namespace Go.Proofs.YtjlpkgipdkjfhaaGreatDoor.Bk.Qp
open Go.ChangeShapes Go.WideShapes Go.ChangeAt Go.RowKit
theorem soft_beg (s : B) : beg [61, 13, 10] s = soft s := rfl
def dE (l : B) : Int := if (dec l).isSome = true then 0 else 2
theorem dE_some {l x : B} (h : dec l = some x) : dE l = 0 := by unfold dE; rw [h]; rfl
theorem dE_none {l : B} (h : dec l = none) : dE l = 2 := by unfold dE; rw [h]; rfl
def DecR (B0 : Nat) (l : B) (v : Value) (w : World) : Prop := ∃ xv, OwnB B0 xv ((dec l).getD []) w ∧ v = .tuple #[xv, .int .i64 (dE l)]
theorem dec_some1 {s : B} (h : soft s = false) {x : UInt8} {k : Nat} (hf : fst s = some (x, k)) (D : B) : (dec s).map (D ++ ·) = (dec (s.drop k)).map ((D ++ [x]) ++ ·) := by
  rw [dec_some h hf]
  cases dec (s.drop k) with
  | none => rfl
  | some z => simp
set_option maxRecDepth 100000 in
set_option maxHeartbeats 4000000 in
theorem decode_any (v : Value) (l : B) (w : World) (hR : BRd v l w) (hl : l.length ≤ 1000000) : Calls Tryz.prog 136 #[v] w fun e w' => ∃ xv, e = .returned xv ∧ DecR w.heap.size l xv w' ∧ Kept w w' := by
  obtain ⟨a, c, hv⟩ := hR.slice
  have hcv := hR.conv
  subst hv
  clear hR
  go_enter Tryz.func136, Tryz.ntmps136
  go_wp2_with fail
  clear hcv
  go_loopw [4, 5] (fun vt vs wr => ∃ (r D : B), vs = sV r ∧ r.length ≤ l.length ∧ D.length + r.length ≤ l.length ∧ Hid ((dec r).map (D ++ ·) = dec l) ∧ Hid (Kept w wr) ∧ Hid (OwnB w.heap.size vt D wr)) (fun _ vs _ => match vs with | .string s => s.size | _ => 0)
  case atStart => exact ⟨l, [], rfl, Nat.le_refl _, by simp, Lib.hid (by simp), Lib.hid (Kept.refl w), Lib.hid (OwnB.nil _ _)⟩
  case round =>
    obtain ⟨r, D, rfl, hrl, hdl, hD, hK, hO⟩ := hrel
    rename_i vt wr
    obtain ⟨ta, tc, htv⟩ := own_slice hO.out
    have hsz := hK.out.size
    subst htv
    cases r with
    | nil =>
      have HD := Lib.hid (show dec l = some D by rw [← hD.out, dec_nil]; simp)
      clear hD
      go_wp2
      go_ret2
      refine ⟨_, rfl, ⟨.slice ta D.length tc, ?_, ?_⟩, hK.out⟩
      · rw [HD.out]; exact hO.out
      · rw [dE_some HD.out]; rfl
    | cons b r =>
      have hne : ((⟨(b :: r).toArray⟩ : ByteArray) = ⟨#[]⟩) = False := by
        refine eq_false (fun e => ?_)
        have := congrArg ByteArray.size e
        simp [ByteArray.size] at this
      have HCP := Lib.hid (cutPrefix_any (b :: r) [61, 13, 10] wr (by unfold maxLen; omega) (by decide))
      rw [soft_beg] at HCP
      have HF := Lib.hid (first_any b r wr (by simp at hrl; omega))
      cases hsf : soft (b :: r) with
      | true =>
        have HC := Lib.hid (show cpS [61, 13, 10] (b :: r) = (b :: r).drop 3 by unfold cpS; rw [soft_beg, if_pos hsf]; rfl)
        rw [hsf, HC.out] at HCP
        have HD := Lib.hid (show (dec ((b :: r).drop 3)).map (D ++ ·) = dec l by rw [← hD.out, dec_soft hsf])
        have h3 : 3 ≤ (b :: r).length := beg_le (p := [61, 13, 10]) hsf
        have hd3 : ((b :: r).drop 3).length = (b :: r).length - 3 := by simp
        clear hD hsf HF HC
        generalize (b :: r).drop 3 = r3 at *
        go_wp2_with fail
        refine HCP.out.mono ?_
        rintro e x ⟨rfl, rfl⟩
        clear HCP
        go_wp2_with fail
        go_roundw
        case rel => exact ⟨r3, D, rfl, by omega, by omega, HD, hK, hO⟩
        case measure => simp [ByteArray.size]; simp at h3 hd3; omega
      | false =>
        rw [hsf] at HCP
        cases hf : fst (b :: r) with
        | none =>
          have HD := Lib.hid (show dec l = none by rw [← hD.out, dec_none (by simp) hsf hf]; rfl)
          rw [show fsV (b :: r) = .tuple #[.int .u8 0, .int .i64 0] by unfold fsV; rw [hf]] at HF
          clear hD hsf hf
          go_wp2_with fail
          refine HCP.out.mono ?_
          rintro e x ⟨rfl, rfl⟩
          clear HCP
          go_wp2_with fail
          refine HF.out.mono ?_
          rintro e y ⟨rfl, ky⟩
          have KY := Lib.hid (hK.out.trans ky)
          clear HF ky hK hO
          go_wp2_with fail
          go_ret2
          refine ⟨_, rfl, ⟨.slice none 0 0, ?_, ?_⟩, KY.out⟩
          · rw [HD.out]; exact OwnB.nil _ _
          · rw [dE_none HD.out]; rfl
        | some p =>
          obtain ⟨ch, k⟩ := p
          have hk := fst_pos hf
          have HD := Lib.hid ((dec_some1 hsf hf D).symm.trans hD.out)
          rw [show fsV (b :: r) = .tuple #[.int .u8 ch.toNat, .int .i64 k] by unfold fsV; rw [hf]] at HF
          have hc := cut_from (b :: r) (k : Int) k rfl hk.2.2
          have hdk : ((b :: r).drop k).length = (b :: r).length - k := by simp
          have hk0 : ¬ (k : Int) = 0 := by omega
          have HMB := Lib.hid (show ByteArray.size ⟨(b :: r).toArray⟩ = (b :: r).length from List.size_toArray)
          clear hD hsf hf
          generalize (b :: r).drop k = r2 at *
          go_wp2_with fail
          refine HCP.out.mono ?_
          rintro e x ⟨rfl, rfl⟩
          clear HCP
          go_wp2_with fail
          refine HF.out.mono ?_
          rintro e y ⟨rfl, ky⟩
          have KY := Lib.hid (hK.out.trans ky)
          have OY := Lib.hid (hO.out.kept ky)
          clear HF ky hK hO
          have kx : Kept y (y.alloc (.cells #[.int .u8 ch.toNat] 5)) := (Kept.refl y).alloc _
          have OX := Lib.hid (OY.out.kept kx)
          have KX := Lib.hid (KY.out.trans kx)
          have hcx : (y.alloc (.cells #[.int .u8 ch.toNat] 5)).cell? ⟨y.heap.size, 0, none⟩ = some (.int .u8 ch.toNat) := (Kept.refl _).new 0 rfl
          have hszx := KX.out.size
          clear KY OY kx
          go_upto_region 10 with (fail)
          go_wp2_with (at_builtin; refine wpList_byteB rfl _ _ rfl w.heap.size (.slice ta D.length tc) D ch y.heap.size rfl OX.out rfl hcx (by omega) hszx ?_)
          intro v' z hz hgz
          have KZ := Lib.hid (kept_row KX.out hgz (fun g hg => (World.ownsRow.lt OX.out g hg).1))
          have OZ := Lib.hid hz
          have hl1 : (D ++ [ch]).length = D.length + 1 := by simp
          clear hz hgz OX KX hcx
          generalize D ++ [ch] = D2 at *
          go_wp2_with fail
          go_roundw
          case rel => exact ⟨r2, D2, rfl, by omega, by omega, HD, KZ, OZ⟩
          case measure => simp only [ByteArray.size, List.size_toArray]; have := HMB.out; simp only [ByteArray.size, List.size_toArray] at this; omega
end Go.Proofs.YtjlpkgipdkjfhaaGreatDoor.Bk.Qp
