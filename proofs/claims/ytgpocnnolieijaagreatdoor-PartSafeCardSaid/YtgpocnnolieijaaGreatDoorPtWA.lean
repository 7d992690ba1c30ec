/- PartSafe: the boundary stands in no body; one of a lesser number does in some. -/
import Derived.Test.YtgpocnnolieijaaGreatDoorPtDg
import Derived.Test.YtgpocnnolieijaaGreatDoorPtWJ
set_option linter.unusedSimpArgs false
set_option linter.unusedVariables false
namespace Go.Proofs.YtgpocnnolieijaaGreatDoor.Pt
open Go.ChangeShapes Go.WideShapes Go.ChangeAt Go.RowKit Go.Shelf
open Hd (SRd OwnS)
theorem bnd_inj {a b : Nat} (h : bnd a = bnd b) : a = b := by
  unfold bnd at h
  injection h with _ h
  injection h with _ h
  exact dec_inj h
theorem all_has {l : List B} {i : Nat} {b : B} (h : l[i]? = some b) (n : Nat) : decide (n ∈ all (l.take (i + 1))) = (decide (n ∈ all (l.take i)) || hasV b (bnd n)) := by
  rw [Bool.eq_iff_iff]
  simp only [Bool.or_eq_true, decide_eq_true_eq]
  rw [all_snoc h]
  unfold hasV
  rw [decide_eq_true_eq, mem_nums]
theorem srd_nil (w : World) : SRd (.slice none 0 0) [] w := ⟨none, 0, rfl, fun h => absurd rfl h⟩
set_option maxRecDepth 100000 in
set_option maxHeartbeats 8000000 in
theorem safe15_walk (lv : Value) (ls : List B) (w : World) (hl : LRd lv ls w) (hE : EnvT w) :
    Calls Tryz.prog 6 #[lv] w fun e w' => e = .returned (.bool true) ∧ Kept w w' := by
  obtain ⟨la, lc, rfl⟩ := hl.slice
  have HL := Lib.hid hl
  have HE := Lib.hid hE
  have HA := Lib.hid (awake15_any w hE.1)
  clear hl hE
  go_enter Tryz.func6, Tryz.ntmps6
  go_wp2_with fail
  refine HA.out.mono ?_
  rintro e x1 ⟨rfl, k1⟩
  have K1 := Lib.hid k1
  have HF := Lib.hid (few_any (.slice none 0 0) _ [] ls x1 (srd_nil _) (HL.out.kept k1))
  clear k1 HA
  go_wp2_with fail
  refine HF.out.mono ?_
  rintro e x2 ⟨rfl, hx2⟩
  have hx2' := hx2.symm
  subst hx2'
  clear hx2 HF
  cases hf : few [] ls with
  | false =>
    clear hf
    go_wp2
    go_ret
    exact ⟨rfl, K1.out⟩
  | true =>
    have hs := few_sum hf
    obtain ⟨⟨_, hln⟩, _, hlb⟩ := few_iff.1 hf
    have HLB := Lib.hid hlb
    have HB := Lib.hid (boundary_any _ ls x1 (HL.out.kept K1.out) (HE.out.1.kept K1.out) (Or.inr (K1.out.tab HE.out.2)) (by omega) (by omega))
    have hfl := free_le (all ls)
    have hal := all_len ls
    have hf3 : free (all ls) ≤ 3000 := by omega
    have HFn := Lib.hid (free_not (all ls))
    have HFi := Lib.hid (free_in (all ls))
    have HBd := Lib.hid (show bdy ls = bnd (free (all ls)) from rfl)
    have hbl := bnd_len (free (all ls))
    rw [HBd.out] at HB
    clear hf hlb hs hfl hal HBd
    generalize free (all ls) = f at *
    obtain ⟨X, hX⟩ : ∃ X, bnd f = X := ⟨_, rfl⟩
    have HX := Lib.hid hX
    rw [hX] at HB hbl
    clear hX
    have hXs : (ByteArray.mk X.toArray).size = X.length := List.size_toArray
    go_wp2_with fail
    refine HB.out.mono ?_
    rintro e y1 ⟨rfl, k1⟩
    have K2 := Lib.hid (K1.out.trans k1)
    clear k1 HB
    go_wp2_with fail
    go_loopw [6, 7, 8, 9] (fun vn _ _ _ wr => ∃ n : Nat, n ≤ f ∧ vn = .int .i64 n ∧ Hid (Kept w wr)) (fun vn _ _ _ _ => f - (intOf vn).toNat)
    case atStart => exact ⟨0, Nat.zero_le _, rfl, K2⟩
    case round =>
      obtain ⟨n, hn, rfl, hK⟩ := hrel
      have hn4 : (n : Int) < 4000 := by omega
      have HD := Lib.hid (fun w => digits_any n n (Nat.le_refl _) (by omega) w)
      have hdl := dec_len n n (Nat.le_refl _)
      have hds : (ByteArray.mk (Lib.decDigits n).toArray).size = (Lib.decDigits n).length := List.size_toArray
      have ha : (⟨#[61, 95]⟩ ++ ⟨(Lib.decDigits n).toArray⟩ : ByteArray) = ⟨(bnd n).toArray⟩ := Hd.app_mk [61, 95] (Lib.decDigits n)
      have hbln := bnd_len n
      have HNE := Lib.hid (bnd_ne n)
      have HQ := Lib.hid (show n < f → (bnd n == X) = false from fun h => by
        rw [← HX.out]; exact beq_eq_false_iff_ne.2 (fun e => by have := bnd_inj e; omega))
      have HQ2 := Lib.hid (show n = f → (bnd n == X) = true from fun h => by rw [← HX.out, h]; simp)
      have HAH := Lib.hid (fun i b (h : ls[i]? = some b) => all_has h n)
      have hns : (ByteArray.mk (bnd n).toArray).size = (bnd n).length := List.size_toArray
      generalize bnd n = x at *
      generalize Lib.decDigits n = dd at *
      go_wp2_with fail
      refine (HD.out _).mono ?_
      rintro e y2 ⟨rfl, q, rfl⟩
      have K3 := Lib.hid (hK.out.drewN q)
      generalize wr.drewN q = y2 at *
      clear hK
      by_cases hlt : n < f
      · have hq := HQ.out hlt
        have HNin := Lib.hid (HFi.out n hlt)
        clear HQ HQ2
        go_wp2_with fail
        go_loopw [7, 8, 9] (fun vf vi _ y => ∃ i : Nat, i ≤ ls.length ∧ vi = .int .i64 i ∧ vf = .bool (decide (n ∈ all (ls.take i))) ∧ Hid (Kept w y)) (fun _ vi _ _ => ls.length - (intOf vi).toNat)
        case atStart => exact ⟨0, Nat.zero_le _, rfl, by simp [all], K3⟩
        case round =>
          obtain ⟨i, hi, rfl, rfl, hK⟩ := hrel
          by_cases hil : i < ls.length
          · have hilI : (i : Int) < ls.length := by omega
            obtain ⟨b, hb⟩ : ∃ b, ls[i]? = some b := ⟨_, List.getElem?_eq_getElem hil⟩
            obtain ⟨g, o, c, xv, hv, hc, c0, hx⟩ := HL.out.at hb
            cases hv
            have c1 := hK.out.yes c0
            have HXb := Lib.hid hx
            have hbl' := HLB.out b (List.mem_of_getElem? hb)
            have HA2 := Lib.hid (HAH.out i b hb)
            obtain ⟨xa, xc, rfl⟩ := hx.slice
            clear hb hx c0
            have HH := Lib.hid (fun n => has_any _ b x (wr.drewN n) (HXb.out.kept (hK.out.drewN n)) HNE.out (by omega) (by omega))
            go_upto_region 12 with (fail)
            go_quiet (first | (go_at_call 17; exact Calls.quiet_of (HD.out _)) | (go_at_call 18; exact Calls.quiet_of_same (HH.out _)))
            have K4 := Lib.hid (hK.out.drewN nq)
            clear hK c1 HH
            cases hd : decide (n ∈ all (ls.take i)) with
            | true =>
              have HD2 := Lib.hid (HA2.out.trans (by rw [hd]; rfl : _ = true))
              clear hd
              generalize hasV b x = hb at *
              go_wp2
              go_roundw
              case rel => exact ⟨i + 1, hil, by go_num, by rw [HD2.out], K4⟩
              case measure => simp [intOf]; omega
            | false =>
              have HD2 := Lib.hid (HA2.out.trans (by rw [hd]; rfl : _ = hasV b x))
              clear hd
              generalize hasV b x = hb at *
              go_wp2
              go_roundw
              case rel => exact ⟨i + 1, hil, by go_num, by rw [HD2.out], K4⟩
              case measure => simp [intOf]; omega
          · obtain rfl : i = ls.length := by omega
            have hilI : ¬ (ls.length : Int) < ls.length := by omega
            rw [List.take_length, decide_eq_true HNin.out]
            go_wp2
            go_roundw
            case rel => exact ⟨n + 1, hlt, by go_num, hK⟩
            case measure => simp [intOf]; omega
      · obtain rfl : n = f := by omega
        have hq := HQ2.out rfl
        clear HQ HQ2
        go_wp2_with fail
        go_loopw [10, 11] (fun vi _ y => ∃ i : Nat, i ≤ ls.length ∧ vi = .int .i64 i ∧ Hid (Kept w y)) (fun vi _ _ => ls.length - (intOf vi).toNat)
        case atStart => exact ⟨0, Nat.zero_le _, rfl, K3⟩
        case round =>
          obtain ⟨i, hi, rfl, hK⟩ := hrel
          by_cases hil : i < ls.length
          · have hilI : (i : Int) < ls.length := by omega
            obtain ⟨b, hb⟩ : ∃ b, ls[i]? = some b := ⟨_, List.getElem?_eq_getElem hil⟩
            obtain ⟨g, o, c, xv, hv, hc, c0, hx⟩ := HL.out.at hb
            cases hv
            have c1 := hK.out.yes c0
            have HXb := Lib.hid hx
            have hbl' := HLB.out b (List.mem_of_getElem? hb)
            have HZ := Lib.hid (show hasV b X = false from decide_eq_false (fun h => HFn.out (mem_all.2 ⟨b, List.mem_of_getElem? hb, by rw [HX.out]; exact h⟩)))
            have HXN := Lib.hid (show X ≠ [] from by rw [← HX.out]; exact bnd_ne _)
            obtain ⟨xa, xc, rfl⟩ := hx.slice
            have HH := Lib.hid (has_any _ b X wr (HXb.out.kept hK.out) HXN.out (by omega) (by omega))
            rw [HZ.out] at HH
            clear hb hx c0
            go_wp2_with fail
            refine HH.out.mono ?_
            rintro e y4 ⟨rfl, hy4⟩
            have hy4' := hy4.symm
            subst hy4'
            clear hy4 HH
            go_wp2
            go_roundw
            case rel => exact ⟨i + 1, hil, by go_num, hK⟩
            case measure => simp [intOf]; omega
          · obtain rfl : i = ls.length := by omega
            have hilI : ¬ (ls.length : Int) < ls.length := by omega
            go_wp2
            go_ret
            exact ⟨rfl, hK.out⟩
end Go.Proofs.YtgpocnnolieijaaGreatDoor.Pt
