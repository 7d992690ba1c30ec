/- The document's answer for package plain: what stands between a text's breaks. -/
import Derived.Test.YtpkbcomdkamglaaGreatDoorPlRb
set_option linter.unusedSimpArgs false
set_option linter.unusedVariables false
namespace Go.Proofs.YtpkbcomdkamglaaGreatDoor.Pl
open Go.ChangeShapes Go.WideShapes Go.ChangeAt Go.RowKit
open En
/-- the last text of a row, another one -/
theorem own_last {B0 g n cap : Nat} {ls : List B} {cur x : B} {w : World} (h : OwnS B0 (.slice (some ⟨g, 0, none⟩) n cap) (ls ++ [cur]) w) : n = ls.length + 1 ∧ B0 ≤ g ∧ w.cell? ⟨g, ls.length, none⟩ = some (sV cur) ∧ w.frozen? ⟨g, ls.length, none⟩ = false ∧ n ≤ cap ∧ OwnS B0 (.slice (some ⟨g, 0, none⟩) n cap) (ls ++ [x]) (w.setCell ⟨g, ls.length, none⟩ (sV x)) := by
  obtain ⟨hx, h1, h2⟩ : ((ls ++ [cur]).map sV).length = (ls ++ [cur]).length * 1 ∧ B0 ≤ g ∧ ∃ cu, w.heap[g]? = some (.cells cu 9 (0, 0)) ∧ n = (ls ++ [cur]).length ∧ n ≤ cap ∧ cap ≤ maxLen ∧ cu.size = cap * 1 ∧ cu.toList.take ((ls ++ [cur]).length * 1) = (ls ++ [cur]).map sV := by
    rcases h.2 with ⟨h1, _⟩ | ⟨g', cap', cu, h1, h2, h3, h4, h5, h6, h7⟩
    · cases h1
    · injection h1 with e1 e2 e3
      cases e1
      subst e3
      exact ⟨h.1, h2, cu, h3, e2, by rw [e2]; exact h4, h5, h6, h7⟩
  obtain ⟨cu, h3, e2, h4, h5, h6, h7⟩ := h2
  simp only [List.length_append, List.length_singleton, Nat.mul_one] at e2 h6 h7
  have hk : ls.length < cu.toList.length := by have : cu.toList.length = cu.size := Array.length_toList; omega
  have hat : cu.toList[ls.length]? = some (sV cur) := by
    have := congrArg (fun z => z[ls.length]?) h7
    simp only [List.getElem?_take, List.map_append, List.map_cons, List.map_nil] at this
    rw [if_pos (by omega), List.getElem?_append_right (by simp)] at this
    simpa using this
  have hc : w.cell? ⟨g, ls.length, none⟩ = some (sV cur) := by
    simp only [World.cell?, h3]
    simpa using hat
  refine ⟨e2, h1, hc, by simp [World.frozen?, h3], h4, ?_⟩
  have hb : (w.setCell ⟨g, ls.length, none⟩ (sV x)).heap[g]? = some (.cells (cu.setIfInBounds ls.length (sV x)) 9 (0, 0)) := by
    simp [World.setCell, Array.getElem?_modify, h3]
  refine ⟨by simp, Or.inr ⟨g, cap, cu.setIfInBounds ls.length (sV x), by rw [e2]; simp, h1, hb, by simp; omega, h5, by simpa using h6, ?_⟩⟩
  rw [Array.toList_setIfInBounds, Nat.mul_one, List.length_append, List.length_singleton, List.take_set, h7, List.map_append, List.map_append]
  rw [List.set_append_right _ _ (by simp)]
  simp
theorem kept_set {w x : World} (h : Kept w x) {g : Nat} (hg : w.heap.size ≤ g) (j : Nat) (v : Value) : Kept w (x.setCell ⟨g, j, none⟩ v) := h.setCell (a := ⟨g, j, none⟩) hg v
theorem aft_at {l : B} {k : Nat} {b : UInt8} (h : l[k]? = some b) : aft (l.drop k) = if b = 62 then l.drop (k + 1) else aft (l.drop (k + 1)) := by
  rw [drop_cons h, aft]
set_option maxRecDepth 100000 in
set_option maxHeartbeats 8000000 in
theorem rpieces_any (l : B) (w : World) (hl : l.length ≤ 100000) : Calls Tryz.prog 20 #[.string ⟨l.toArray⟩] w fun e w' => ∃ v, e = .returned v ∧ OwnS w.heap.size v (pcs l) w' ∧ Kept w w' := by
  have O0 := Lib.hid (show OwnS w.heap.size (.slice (some ⟨w.heap.size, 0, none⟩) 1 1) ([] ++ [[]]) (w.alloc (.cells #[sV []] 9)) from own_one w [])
  have K0 := Lib.hid ((Kept.refl w).alloc (.cells #[sV []] 9))
  go_enter Tryz.func20, Tryz.ntmps20
  go_wp2
  go_loopw [3, 4] (fun vo vi wr => ∃ (i : Nat) (done : List B) (cur : B) (g cap : Nat), i ≤ l.length ∧ vo = .slice (some ⟨g, 0, none⟩) (done.length + 1) cap ∧ vi = .int .i64 i ∧ done.length ≤ i ∧ cur.length ≤ i ∧ Hid (pcs l = done ++ pc cur (l.drop i)) ∧ Hid (OwnS w.heap.size (.slice (some ⟨g, 0, none⟩) (done.length + 1) cap) (done ++ [cur]) wr) ∧ Hid (Kept w wr)) (fun _ vi _ => l.length - (intOf vi).toNat)
  case atStart => exact ⟨0, [], [], w.heap.size, 1, Nat.zero_le _, rfl, rfl, Nat.le_refl _, Nat.le_refl _, Lib.hid rfl, O0, K0⟩
  case round =>
    obtain ⟨i, done, cur, g, cap, hi, rfl, rfl, hdl, hcl, hP, hO, hK⟩ := hrel
    by_cases hlt : i < l.length
    · have hltI : (i : Int) < l.length := by omega
      obtain ⟨c, hc⟩ : ∃ c, l[i]? = some c := ⟨_, List.getElem?_eq_getElem hlt⟩
      have HMk := Lib.hid (fun w => rmark_any l i c w hc (by omega))
      cases hm : isM c (l.drop (i + 1)) with
      | false =>
        rw [hm] at HMk
        have HN := Lib.hid (show pcs l = done ++ pc (cur ++ [c]) (l.drop (i + 1)) by rw [hP.out, drop_cons hc, pc_other cur hm])
        have hct : ∀ W : World, (Instr.slice 9 (.string ⟨l.toArray⟩) (some (.int .i64 i)) (some (.int .i64 ((i : Int) + 1))) none).run Tryz.prog W = .ok (.string ⟨([c] : B).toArray⟩) W := fun W => by
          have := cut_both l i (i + 1) (by omega) (by omega) W
          rw [show ((i + 1 : Nat) : Int) = (i : Int) + 1 by omega, List.drop_take, show i + 1 - i = 1 by omega, drop_cons hc] at this
          exact this
        obtain ⟨-, hg, c1, f1, hcap, ho2⟩ := own_last (x := cur ++ [c]) (OwnS.kept hO.out (Kept.refl wr).drew)
        have O2 := Lib.hid ho2
        have K2 := Lib.hid (kept_set (hK.out.trans (Kept.refl wr).drew) hg done.length (sV (cur ++ [c])))
        have happ : (⟨cur.toArray⟩ ++ ⟨([c] : B).toArray⟩ : ByteArray) = ⟨(cur ++ [c]).toArray⟩ := app_mk cur [c]
        have hbig : ¬ 9223372036854775807 < cur.length + ([c] : B).length := by simp; omega
        have hcl2 : (cur ++ [c]).length ≤ i + 1 := by simp; omega
        clear hP hc hm ho2 hO hK
        generalize ([c] : B) = c' at *
        generalize cur ++ c' = cur' at *
        go_wp2_with (go_at_call 36; refine (HMk.out _).mono ?_; rintro e w' ⟨rfl, rfl⟩)
        have c1' : wr.cell? ⟨g, done.length, none⟩ = some (sV cur) := c1
        have f1' : wr.frozen? ⟨g, done.length, none⟩ = false := f1
        clear c1 f1
        go_region
        go_wp2
        go_roundw
        case rel => exact ⟨i + 1, done, cur', g, cap, hlt, rfl, by go_num, by omega, hcl2, HN, O2, K2⟩
        case measure => simp [intOf]; omega
      | true =>
        rw [hm] at HMk
        have hc60 : c = 60 ∧ opn (l.drop (i + 1)) = true := by unfold isM at hm; simpa using hm
        obtain ⟨hc0, hop⟩ := hc60
        subst hc0
        have hi1 : i + 1 < l.length := by
          apply Classical.byContradiction
          intro hn
          rw [List.drop_eq_nil_of_le (by omega)] at hop
          cases hop
        obtain ⟨d, hd⟩ : ∃ d, l[i + 1]? = some d := ⟨_, List.getElem?_eq_getElem hi1⟩
        have hat2 : ∀ hk, (ByteArray.mk l.toArray)[i + 1]'hk = d := byte_at l (i + 1) d hd
        have hi1I : (i : Int) + 1 < l.length := by omega
        have h47 : ((d.toNat : Int) == 47) = (d == 47) := by rw [Bool.eq_iff_iff, beq_iff_eq, beq_iff_eq, ← UInt8.toNat_inj]; show _ ↔ d.toNat = 47; omega
        have hcl47 : clo (l.drop (i + 1)) = (d == 47) := by rw [drop_cons hd]; rfl
        have HNm := Lib.hid (fun w => rname_any l i w hi1 hl)
        have HHd := Lib.hid (show hidM (l.drop (i + 1)) = (!(d == 47) && ((nam (l.drop (i + 1)) == [115, 99, 114, 105, 112, 116]) || (nam (l.drop (i + 1)) == [115, 116, 121, 108, 101]))) by unfold hidM hidN; rw [hcl47]; rfl)
        have HRs := Lib.hid (show rst (l.drop (i + 1)) = if hidM (l.drop (i + 1)) = true then skp (nam (l.drop (i + 1))) (aft (l.drop (i + 1))) else aft (l.drop (i + 1)) from rfl)
        have HN := Lib.hid (show pcs l = done ++ (if brk (nam (l.drop (i + 1))) = true then cur :: pc [] (rst (l.drop (i + 1))) else pc cur (rst (l.drop (i + 1)))) by rw [hP.out, drop_cons hc, pc_mark cur _ hop])
        have HAf := Lib.hid (show aft (l.drop (i + 1)) = aft (l.drop i) by rw [drop_cons hc, aft, if_neg (by decide)])
        have hnl : (nam (l.drop (i + 1))).length ≤ 100000 := by
          unfold nam lo
          have h1 := cor_len (l.drop (i + 1))
          have h2 : ((cor (l.drop (i + 1))).takeWhile wdB).length ≤ (cor (l.drop (i + 1))).length := (List.takeWhile_prefix _).length_le
          rw [List.length_drop] at h1
          rw [List.length_map]; omega
        have HBr := Lib.hid (fun w => rbreaks_any (nam (l.drop (i + 1))) w)
        clear hP hc hm hop hd hcl47
        generalize nam (l.drop (i + 1)) = nm at *
        generalize hidM (l.drop (i + 1)) = hb at *
        generalize aft (l.drop (i + 1)) = af at *
        generalize rst (l.drop (i + 1)) = rs at *
        rw [← h47] at HHd
        have h47n : ((d.toNat : Int) != 47) = !((d.toNat : Int) == 47) := rfl
        clear h47
        have HHn := Lib.hid (fun (p : Nat) (hp : p ≤ l.length) w => rhidden_any l nm p w hp hl hnl)
        cases h4 : ((d.toNat : Int) == 47) with
        | true =>
          rw [h4] at HHd h47n
          have hbe := HHd.out
          simp only [Bool.not_true, Bool.false_and] at hbe
          subst hbe
          have HR2 := Lib.hid (show rs = af by rw [HRs.out]; simp)
          clear h4 HHd
          go_wp2_with (first | (go_at_call 36; refine (HMk.out _).mono ?_; rintro e w' ⟨rfl, rfl⟩) | fail)
          refine (HNm.out _).mono ?_
          rintro e w2 ⟨rfl, k2⟩
          have hK2 := Lib.hid (hK.out.trans k2)
          have hO2 := Lib.hid (OwnS.kept hO.out k2)
          clear k2 hK hO
          go_wp2_with fail
          go_loopw [4] (fun vk wr => ∃ k : Nat, i ≤ k ∧ k ≤ l.length ∧ vk = .int .i64 k ∧ Hid (aft (l.drop k) = af) ∧ Hid (OwnS w.heap.size (.slice (some ⟨g, 0, none⟩) (done.length + 1) cap) (done ++ [cur]) wr) ∧ Hid (Kept w wr)) (fun vk _ => l.length - (intOf vk).toNat)
          case atStart => exact ⟨i, Nat.le_refl _, by omega, rfl, Lib.hid HAf.out.symm, hO2, hK2⟩
          case round =>
            skip
            obtain ⟨k, hik, hkl, rfl, hA, hO3, hK3⟩ := hrel
            by_cases hkt : k < l.length
            · have hktI : (k : Int) < l.length := by omega
              obtain ⟨b, hbb⟩ : ∃ b, l[k]? = some b := ⟨_, List.getElem?_eq_getElem hkt⟩
              have hatk := byte_at l k b hbb
              have hAs := aft_at hbb
              rw [hA.out] at hAs
              clear hbb hA
              by_cases h62 : b = 62
              · rw [if_pos h62] at hAs
                have hbI : ((b.toNat : Int) != 62) = false := by rw [h62]; rfl
                have HA2 := Lib.hid hAs
                clear hAs h62
                have K5 := hK3
                have O5 := hO3
                have D5 := Lib.hid (show l.drop (k + 1) = rs by rw [HR2.out, ← HA2.out])
                cases hbr : brk nm with
                | true =>
                  rw [hbr] at HBr HN
                  have HN2 := Lib.hid (show pcs l = (done ++ [cur]) ++ pc [] (l.drop (k + 1)) by rw [HN.out, if_pos rfl, D5.out]; simp)
                  clear HN hbr D5
                  go_wp2_with fail
                  refine (HBr.out _).mono ?_
                  rintro e w' ⟨rfl, rfl⟩
                  have hDl : (done ++ [cur]).length = done.length + 1 := by simp
                  generalize done ++ [cur] = D at *
                  have hal := (Kept.refl wr).alloc (.cells #[sV []] 9)
                  have O6 := Lib.hid (OwnS.kept O5.out hal)
                  have K6 := Lib.hid (K5.out.trans hal)
                  have hc6 := (Kept.refl (wr.alloc (.cells #[sV []] 9))).new 0 (v := sV []) rfl
                  have hB6 := K6.out.size
                  go_wp2_with (at_builtin; refine wpList_pushS rfl _ _ rfl w.heap.size _ D [] wr.heap.size rfl O6.out rfl hc6 (by omega) hB6 ?_)
                  intro v7 y hy hgy
                  have K7 := Lib.hid (kept_row K6.out hgy (fun g hg => (World.ownsRow.lt O6.out g hg).1))
                  obtain ⟨g7, cap7, hv7, -⟩ := own_some hy (by simp)
                  rw [List.length_append, List.length_singleton] at hv7
                  subst hv7
                  have O7 := Lib.hid (show OwnS w.heap.size (.slice (some ⟨g7, 0, none⟩) (D.length + 1) cap7) (D ++ [[]]) y from hy)
                  have hdl7 : D.length ≤ k + 1 := by omega
                  clear hy hgy hc6 hB6 hal
                  go_wp2
                  go_roundw
                  case rel => exact ⟨k + 1, D, [], g7, cap7, by omega, rfl, by go_num, hdl7, Nat.zero_le _, HN2, O7, K7⟩
                  case measure => simp [intOf]; omega
                | false =>
                  rw [hbr] at HBr HN
                  have HN2 := Lib.hid (show pcs l = done ++ pc cur (l.drop (k + 1)) by rw [HN.out, if_neg (by decide), D5.out])
                  clear HN hbr D5
                  go_wp2_with (go_at_call 39; refine (HBr.out _).mono ?_; rintro e w' ⟨rfl, rfl⟩)
                  go_roundw
                  case rel => exact ⟨k + 1, done, cur, g, cap, by omega, rfl, by go_num, by omega, by omega, HN2, O5, K5⟩
                  case measure => simp [intOf]; omega
              · rw [if_neg h62] at hAs
                have hbI : ((b.toNat : Int) != 62) = true := by
                  have : b.toNat ≠ 62 := fun e => h62 (UInt8.toNat_inj.1 e)
                  simp; omega
                have HA2 := Lib.hid hAs.symm
                clear hAs h62
                go_wp2
                go_roundw
                case rel => exact ⟨k + 1, by omega, by omega, by go_num, HA2, hO3, hK3⟩
                case measure => simp [intOf]; omega
            · obtain rfl : k = l.length := by omega
              have HA2 := Lib.hid (show af = l.drop l.length by rw [← hA.out, List.drop_length]; rfl)
              clear hA
              have K5 := hK3
              have O5 := hO3
              have D5 := Lib.hid (show l.drop (l.length) = rs by rw [HR2.out, ← HA2.out])
              cases hbr : brk nm with
              | true =>
                rw [hbr] at HBr HN
                have HN2 := Lib.hid (show pcs l = (done ++ [cur]) ++ pc [] (l.drop (l.length)) by rw [HN.out, if_pos rfl, D5.out]; simp)
                clear HN hbr D5
                go_wp2_with fail
                refine (HBr.out _).mono ?_
                rintro e w' ⟨rfl, rfl⟩
                have hDl : (done ++ [cur]).length = done.length + 1 := by simp
                generalize done ++ [cur] = D at *
                have hal := (Kept.refl wr).alloc (.cells #[sV []] 9)
                have O6 := Lib.hid (OwnS.kept O5.out hal)
                have K6 := Lib.hid (K5.out.trans hal)
                have hc6 := (Kept.refl (wr.alloc (.cells #[sV []] 9))).new 0 (v := sV []) rfl
                have hB6 := K6.out.size
                go_wp2_with (at_builtin; refine wpList_pushS rfl _ _ rfl w.heap.size _ D [] wr.heap.size rfl O6.out rfl hc6 (by omega) hB6 ?_)
                intro v7 y hy hgy
                have K7 := Lib.hid (kept_row K6.out hgy (fun g hg => (World.ownsRow.lt O6.out g hg).1))
                obtain ⟨g7, cap7, hv7, -⟩ := own_some hy (by simp)
                rw [List.length_append, List.length_singleton] at hv7
                subst hv7
                have O7 := Lib.hid (show OwnS w.heap.size (.slice (some ⟨g7, 0, none⟩) (D.length + 1) cap7) (D ++ [[]]) y from hy)
                have hdl7 : D.length ≤ l.length := by omega
                clear hy hgy hc6 hB6 hal
                go_wp2
                go_roundw
                case rel => exact ⟨l.length, D, [], g7, cap7, by omega, rfl, rfl, hdl7, Nat.zero_le _, HN2, O7, K7⟩
                case measure => simp [intOf]; omega
              | false =>
                rw [hbr] at HBr HN
                have HN2 := Lib.hid (show pcs l = done ++ pc cur (l.drop (l.length)) by rw [HN.out, if_neg (by decide), D5.out])
                clear HN hbr D5
                go_wp2_with (go_at_call 39; refine (HBr.out _).mono ?_; rintro e w' ⟨rfl, rfl⟩)
                go_roundw
                case rel => exact ⟨l.length, done, cur, g, cap, by omega, rfl, rfl, by omega, by omega, HN2, O5, K5⟩
                case measure => simp [intOf]; omega
        | false =>
          rw [h4] at HHd h47n
          cases h5 : (nm == [115, 99, 114, 105, 112, 116]) with
          | true =>
            rw [h5] at HHd
            have hbe := HHd.out
            simp only [Bool.not_false, Bool.true_and, Bool.true_or] at hbe
            subst hbe
            have HR2 := Lib.hid (show rs = skp nm af by rw [HRs.out]; simp)
            clear h4 HHd
            go_wp2_with (first | (go_at_call 36; refine (HMk.out _).mono ?_; rintro e w' ⟨rfl, rfl⟩) | fail)
            refine (HNm.out _).mono ?_
            rintro e w2 ⟨rfl, k2⟩
            have hK2 := Lib.hid (hK.out.trans k2)
            have hO2 := Lib.hid (OwnS.kept hO.out k2)
            clear k2 hK hO
            go_wp2_with fail
            go_loopw [4] (fun vk wr => ∃ k : Nat, i ≤ k ∧ k ≤ l.length ∧ vk = .int .i64 k ∧ Hid (aft (l.drop k) = af) ∧ Hid (OwnS w.heap.size (.slice (some ⟨g, 0, none⟩) (done.length + 1) cap) (done ++ [cur]) wr) ∧ Hid (Kept w wr)) (fun vk _ => l.length - (intOf vk).toNat)
            case atStart => exact ⟨i, Nat.le_refl _, by omega, rfl, Lib.hid HAf.out.symm, hO2, hK2⟩
            case round =>
              skip
              obtain ⟨k, hik, hkl, rfl, hA, hO3, hK3⟩ := hrel
              by_cases hkt : k < l.length
              · have hktI : (k : Int) < l.length := by omega
                obtain ⟨b, hbb⟩ : ∃ b, l[k]? = some b := ⟨_, List.getElem?_eq_getElem hkt⟩
                have hatk := byte_at l k b hbb
                have hAs := aft_at hbb
                rw [hA.out] at hAs
                clear hbb hA
                by_cases h62 : b = 62
                · rw [if_pos h62] at hAs
                  have hbI : ((b.toNat : Int) != 62) = false := by rw [h62]; rfl
                  have HA2 := Lib.hid hAs
                  clear hAs h62
                  go_wp2_with fail
                  refine (HHn.out (k + 1) (by omega) _).mono ?_
                  rintro e w5 ⟨⟨p, rfl, hp1, hp2, hp3⟩, k5⟩
                  have K5 := Lib.hid (hK3.out.trans k5)
                  have O5 := Lib.hid (OwnS.kept hO3.out k5)
                  have D5 := Lib.hid (show l.drop p = rs by rw [hp3, HR2.out, ← HA2.out])
                  clear k5 hp3
                  cases hbr : brk nm with
                  | true =>
                    rw [hbr] at HBr HN
                    have HN2 := Lib.hid (show pcs l = (done ++ [cur]) ++ pc [] (l.drop (p)) by rw [HN.out, if_pos rfl, D5.out]; simp)
                    clear HN hbr D5
                    go_wp2_with fail
                    refine (HBr.out _).mono ?_
                    rintro e w' ⟨rfl, rfl⟩
                    have hDl : (done ++ [cur]).length = done.length + 1 := by simp
                    generalize done ++ [cur] = D at *
                    have hal := (Kept.refl w5).alloc (.cells #[sV []] 9)
                    have O6 := Lib.hid (OwnS.kept O5.out hal)
                    have K6 := Lib.hid (K5.out.trans hal)
                    have hc6 := (Kept.refl (w5.alloc (.cells #[sV []] 9))).new 0 (v := sV []) rfl
                    have hB6 := K6.out.size
                    go_wp2_with (at_builtin; refine wpList_pushS rfl _ _ rfl w.heap.size _ D [] w5.heap.size rfl O6.out rfl hc6 (by omega) hB6 ?_)
                    intro v7 y hy hgy
                    have K7 := Lib.hid (kept_row K6.out hgy (fun g hg => (World.ownsRow.lt O6.out g hg).1))
                    obtain ⟨g7, cap7, hv7, -⟩ := own_some hy (by simp)
                    rw [List.length_append, List.length_singleton] at hv7
                    subst hv7
                    have O7 := Lib.hid (show OwnS w.heap.size (.slice (some ⟨g7, 0, none⟩) (D.length + 1) cap7) (D ++ [[]]) y from hy)
                    have hdl7 : D.length ≤ p := by omega
                    clear hy hgy hc6 hB6 hal
                    go_wp2
                    go_roundw
                    case rel => exact ⟨p, D, [], g7, cap7, by omega, rfl, rfl, hdl7, Nat.zero_le _, HN2, O7, K7⟩
                    case measure => simp [intOf]; omega
                  | false =>
                    rw [hbr] at HBr HN
                    have HN2 := Lib.hid (show pcs l = done ++ pc cur (l.drop (p)) by rw [HN.out, if_neg (by decide), D5.out])
                    clear HN hbr D5
                    go_wp2_with (go_at_call 39; refine (HBr.out _).mono ?_; rintro e w' ⟨rfl, rfl⟩)
                    go_roundw
                    case rel => exact ⟨p, done, cur, g, cap, by omega, rfl, rfl, by omega, by omega, HN2, O5, K5⟩
                    case measure => simp [intOf]; omega
                · rw [if_neg h62] at hAs
                  have hbI : ((b.toNat : Int) != 62) = true := by
                    have : b.toNat ≠ 62 := fun e => h62 (UInt8.toNat_inj.1 e)
                    simp; omega
                  have HA2 := Lib.hid hAs.symm
                  clear hAs h62
                  go_wp2
                  go_roundw
                  case rel => exact ⟨k + 1, by omega, by omega, by go_num, HA2, hO3, hK3⟩
                  case measure => simp [intOf]; omega
              · obtain rfl : k = l.length := by omega
                have HA2 := Lib.hid (show af = l.drop l.length by rw [← hA.out, List.drop_length]; rfl)
                clear hA
                go_wp2_with fail
                refine (HHn.out (l.length) (by omega) _).mono ?_
                rintro e w5 ⟨⟨p, rfl, hp1, hp2, hp3⟩, k5⟩
                have K5 := Lib.hid (hK3.out.trans k5)
                have O5 := Lib.hid (OwnS.kept hO3.out k5)
                have D5 := Lib.hid (show l.drop p = rs by rw [hp3, HR2.out, ← HA2.out])
                clear k5 hp3
                cases hbr : brk nm with
                | true =>
                  rw [hbr] at HBr HN
                  have HN2 := Lib.hid (show pcs l = (done ++ [cur]) ++ pc [] (l.drop (p)) by rw [HN.out, if_pos rfl, D5.out]; simp)
                  clear HN hbr D5
                  go_wp2_with fail
                  refine (HBr.out _).mono ?_
                  rintro e w' ⟨rfl, rfl⟩
                  have hDl : (done ++ [cur]).length = done.length + 1 := by simp
                  generalize done ++ [cur] = D at *
                  have hal := (Kept.refl w5).alloc (.cells #[sV []] 9)
                  have O6 := Lib.hid (OwnS.kept O5.out hal)
                  have K6 := Lib.hid (K5.out.trans hal)
                  have hc6 := (Kept.refl (w5.alloc (.cells #[sV []] 9))).new 0 (v := sV []) rfl
                  have hB6 := K6.out.size
                  go_wp2_with (at_builtin; refine wpList_pushS rfl _ _ rfl w.heap.size _ D [] w5.heap.size rfl O6.out rfl hc6 (by omega) hB6 ?_)
                  intro v7 y hy hgy
                  have K7 := Lib.hid (kept_row K6.out hgy (fun g hg => (World.ownsRow.lt O6.out g hg).1))
                  obtain ⟨g7, cap7, hv7, -⟩ := own_some hy (by simp)
                  rw [List.length_append, List.length_singleton] at hv7
                  subst hv7
                  have O7 := Lib.hid (show OwnS w.heap.size (.slice (some ⟨g7, 0, none⟩) (D.length + 1) cap7) (D ++ [[]]) y from hy)
                  have hdl7 : D.length ≤ p := by omega
                  clear hy hgy hc6 hB6 hal
                  go_wp2
                  go_roundw
                  case rel => exact ⟨p, D, [], g7, cap7, by omega, rfl, rfl, hdl7, Nat.zero_le _, HN2, O7, K7⟩
                  case measure => simp [intOf]; omega
                | false =>
                  rw [hbr] at HBr HN
                  have HN2 := Lib.hid (show pcs l = done ++ pc cur (l.drop (p)) by rw [HN.out, if_neg (by decide), D5.out])
                  clear HN hbr D5
                  go_wp2_with (go_at_call 39; refine (HBr.out _).mono ?_; rintro e w' ⟨rfl, rfl⟩)
                  go_roundw
                  case rel => exact ⟨p, done, cur, g, cap, by omega, rfl, rfl, by omega, by omega, HN2, O5, K5⟩
                  case measure => simp [intOf]; omega
          | false =>
            rw [h5] at HHd
            cases h6 : (nm == [115, 116, 121, 108, 101]) with
            | true =>
              rw [h6] at HHd
              have hbe := HHd.out
              simp only [Bool.not_false, Bool.true_and, Bool.false_or] at hbe
              subst hbe
              have HR2 := Lib.hid (show rs = skp nm af by rw [HRs.out]; simp)
              clear h4 HHd
              go_wp2_with (first | (go_at_call 36; refine (HMk.out _).mono ?_; rintro e w' ⟨rfl, rfl⟩) | fail)
              refine (HNm.out _).mono ?_
              rintro e w2 ⟨rfl, k2⟩
              have hK2 := Lib.hid (hK.out.trans k2)
              have hO2 := Lib.hid (OwnS.kept hO.out k2)
              clear k2 hK hO
              go_wp2_with fail
              go_loopw [4] (fun vk wr => ∃ k : Nat, i ≤ k ∧ k ≤ l.length ∧ vk = .int .i64 k ∧ Hid (aft (l.drop k) = af) ∧ Hid (OwnS w.heap.size (.slice (some ⟨g, 0, none⟩) (done.length + 1) cap) (done ++ [cur]) wr) ∧ Hid (Kept w wr)) (fun vk _ => l.length - (intOf vk).toNat)
              case atStart => exact ⟨i, Nat.le_refl _, by omega, rfl, Lib.hid HAf.out.symm, hO2, hK2⟩
              case round =>
                skip
                obtain ⟨k, hik, hkl, rfl, hA, hO3, hK3⟩ := hrel
                by_cases hkt : k < l.length
                · have hktI : (k : Int) < l.length := by omega
                  obtain ⟨b, hbb⟩ : ∃ b, l[k]? = some b := ⟨_, List.getElem?_eq_getElem hkt⟩
                  have hatk := byte_at l k b hbb
                  have hAs := aft_at hbb
                  rw [hA.out] at hAs
                  clear hbb hA
                  by_cases h62 : b = 62
                  · rw [if_pos h62] at hAs
                    have hbI : ((b.toNat : Int) != 62) = false := by rw [h62]; rfl
                    have HA2 := Lib.hid hAs
                    clear hAs h62
                    go_wp2_with fail
                    refine (HHn.out (k + 1) (by omega) _).mono ?_
                    rintro e w5 ⟨⟨p, rfl, hp1, hp2, hp3⟩, k5⟩
                    have K5 := Lib.hid (hK3.out.trans k5)
                    have O5 := Lib.hid (OwnS.kept hO3.out k5)
                    have D5 := Lib.hid (show l.drop p = rs by rw [hp3, HR2.out, ← HA2.out])
                    clear k5 hp3
                    cases hbr : brk nm with
                    | true =>
                      rw [hbr] at HBr HN
                      have HN2 := Lib.hid (show pcs l = (done ++ [cur]) ++ pc [] (l.drop (p)) by rw [HN.out, if_pos rfl, D5.out]; simp)
                      clear HN hbr D5
                      go_wp2_with fail
                      refine (HBr.out _).mono ?_
                      rintro e w' ⟨rfl, rfl⟩
                      have hDl : (done ++ [cur]).length = done.length + 1 := by simp
                      generalize done ++ [cur] = D at *
                      have hal := (Kept.refl w5).alloc (.cells #[sV []] 9)
                      have O6 := Lib.hid (OwnS.kept O5.out hal)
                      have K6 := Lib.hid (K5.out.trans hal)
                      have hc6 := (Kept.refl (w5.alloc (.cells #[sV []] 9))).new 0 (v := sV []) rfl
                      have hB6 := K6.out.size
                      go_wp2_with (at_builtin; refine wpList_pushS rfl _ _ rfl w.heap.size _ D [] w5.heap.size rfl O6.out rfl hc6 (by omega) hB6 ?_)
                      intro v7 y hy hgy
                      have K7 := Lib.hid (kept_row K6.out hgy (fun g hg => (World.ownsRow.lt O6.out g hg).1))
                      obtain ⟨g7, cap7, hv7, -⟩ := own_some hy (by simp)
                      rw [List.length_append, List.length_singleton] at hv7
                      subst hv7
                      have O7 := Lib.hid (show OwnS w.heap.size (.slice (some ⟨g7, 0, none⟩) (D.length + 1) cap7) (D ++ [[]]) y from hy)
                      have hdl7 : D.length ≤ p := by omega
                      clear hy hgy hc6 hB6 hal
                      go_wp2
                      go_roundw
                      case rel => exact ⟨p, D, [], g7, cap7, by omega, rfl, rfl, hdl7, Nat.zero_le _, HN2, O7, K7⟩
                      case measure => simp [intOf]; omega
                    | false =>
                      rw [hbr] at HBr HN
                      have HN2 := Lib.hid (show pcs l = done ++ pc cur (l.drop (p)) by rw [HN.out, if_neg (by decide), D5.out])
                      clear HN hbr D5
                      go_wp2_with (go_at_call 39; refine (HBr.out _).mono ?_; rintro e w' ⟨rfl, rfl⟩)
                      go_roundw
                      case rel => exact ⟨p, done, cur, g, cap, by omega, rfl, rfl, by omega, by omega, HN2, O5, K5⟩
                      case measure => simp [intOf]; omega
                  · rw [if_neg h62] at hAs
                    have hbI : ((b.toNat : Int) != 62) = true := by
                      have : b.toNat ≠ 62 := fun e => h62 (UInt8.toNat_inj.1 e)
                      simp; omega
                    have HA2 := Lib.hid hAs.symm
                    clear hAs h62
                    go_wp2
                    go_roundw
                    case rel => exact ⟨k + 1, by omega, by omega, by go_num, HA2, hO3, hK3⟩
                    case measure => simp [intOf]; omega
                · obtain rfl : k = l.length := by omega
                  have HA2 := Lib.hid (show af = l.drop l.length by rw [← hA.out, List.drop_length]; rfl)
                  clear hA
                  go_wp2_with fail
                  refine (HHn.out (l.length) (by omega) _).mono ?_
                  rintro e w5 ⟨⟨p, rfl, hp1, hp2, hp3⟩, k5⟩
                  have K5 := Lib.hid (hK3.out.trans k5)
                  have O5 := Lib.hid (OwnS.kept hO3.out k5)
                  have D5 := Lib.hid (show l.drop p = rs by rw [hp3, HR2.out, ← HA2.out])
                  clear k5 hp3
                  cases hbr : brk nm with
                  | true =>
                    rw [hbr] at HBr HN
                    have HN2 := Lib.hid (show pcs l = (done ++ [cur]) ++ pc [] (l.drop (p)) by rw [HN.out, if_pos rfl, D5.out]; simp)
                    clear HN hbr D5
                    go_wp2_with fail
                    refine (HBr.out _).mono ?_
                    rintro e w' ⟨rfl, rfl⟩
                    have hDl : (done ++ [cur]).length = done.length + 1 := by simp
                    generalize done ++ [cur] = D at *
                    have hal := (Kept.refl w5).alloc (.cells #[sV []] 9)
                    have O6 := Lib.hid (OwnS.kept O5.out hal)
                    have K6 := Lib.hid (K5.out.trans hal)
                    have hc6 := (Kept.refl (w5.alloc (.cells #[sV []] 9))).new 0 (v := sV []) rfl
                    have hB6 := K6.out.size
                    go_wp2_with (at_builtin; refine wpList_pushS rfl _ _ rfl w.heap.size _ D [] w5.heap.size rfl O6.out rfl hc6 (by omega) hB6 ?_)
                    intro v7 y hy hgy
                    have K7 := Lib.hid (kept_row K6.out hgy (fun g hg => (World.ownsRow.lt O6.out g hg).1))
                    obtain ⟨g7, cap7, hv7, -⟩ := own_some hy (by simp)
                    rw [List.length_append, List.length_singleton] at hv7
                    subst hv7
                    have O7 := Lib.hid (show OwnS w.heap.size (.slice (some ⟨g7, 0, none⟩) (D.length + 1) cap7) (D ++ [[]]) y from hy)
                    have hdl7 : D.length ≤ p := by omega
                    clear hy hgy hc6 hB6 hal
                    go_wp2
                    go_roundw
                    case rel => exact ⟨p, D, [], g7, cap7, by omega, rfl, rfl, hdl7, Nat.zero_le _, HN2, O7, K7⟩
                    case measure => simp [intOf]; omega
                  | false =>
                    rw [hbr] at HBr HN
                    have HN2 := Lib.hid (show pcs l = done ++ pc cur (l.drop (p)) by rw [HN.out, if_neg (by decide), D5.out])
                    clear HN hbr D5
                    go_wp2_with (go_at_call 39; refine (HBr.out _).mono ?_; rintro e w' ⟨rfl, rfl⟩)
                    go_roundw
                    case rel => exact ⟨p, done, cur, g, cap, by omega, rfl, rfl, by omega, by omega, HN2, O5, K5⟩
                    case measure => simp [intOf]; omega
            | false =>
              rw [h6] at HHd
              have hbe := HHd.out
              simp only [Bool.not_false, Bool.true_and, Bool.false_or] at hbe
              subst hbe
              have HR2 := Lib.hid (show rs = af by rw [HRs.out]; simp)
              clear h4 HHd
              go_wp2_with (first | (go_at_call 36; refine (HMk.out _).mono ?_; rintro e w' ⟨rfl, rfl⟩) | fail)
              refine (HNm.out _).mono ?_
              rintro e w2 ⟨rfl, k2⟩
              have hK2 := Lib.hid (hK.out.trans k2)
              have hO2 := Lib.hid (OwnS.kept hO.out k2)
              clear k2 hK hO
              go_wp2_with fail
              go_loopw [4] (fun vk wr => ∃ k : Nat, i ≤ k ∧ k ≤ l.length ∧ vk = .int .i64 k ∧ Hid (aft (l.drop k) = af) ∧ Hid (OwnS w.heap.size (.slice (some ⟨g, 0, none⟩) (done.length + 1) cap) (done ++ [cur]) wr) ∧ Hid (Kept w wr)) (fun vk _ => l.length - (intOf vk).toNat)
              case atStart => exact ⟨i, Nat.le_refl _, by omega, rfl, Lib.hid HAf.out.symm, hO2, hK2⟩
              case round =>
                skip
                obtain ⟨k, hik, hkl, rfl, hA, hO3, hK3⟩ := hrel
                by_cases hkt : k < l.length
                · have hktI : (k : Int) < l.length := by omega
                  obtain ⟨b, hbb⟩ : ∃ b, l[k]? = some b := ⟨_, List.getElem?_eq_getElem hkt⟩
                  have hatk := byte_at l k b hbb
                  have hAs := aft_at hbb
                  rw [hA.out] at hAs
                  clear hbb hA
                  by_cases h62 : b = 62
                  · rw [if_pos h62] at hAs
                    have hbI : ((b.toNat : Int) != 62) = false := by rw [h62]; rfl
                    have HA2 := Lib.hid hAs
                    clear hAs h62
                    have K5 := hK3
                    have O5 := hO3
                    have D5 := Lib.hid (show l.drop (k + 1) = rs by rw [HR2.out, ← HA2.out])
                    cases hbr : brk nm with
                    | true =>
                      rw [hbr] at HBr HN
                      have HN2 := Lib.hid (show pcs l = (done ++ [cur]) ++ pc [] (l.drop (k + 1)) by rw [HN.out, if_pos rfl, D5.out]; simp)
                      clear HN hbr D5
                      go_wp2_with fail
                      refine (HBr.out _).mono ?_
                      rintro e w' ⟨rfl, rfl⟩
                      have hDl : (done ++ [cur]).length = done.length + 1 := by simp
                      generalize done ++ [cur] = D at *
                      have hal := (Kept.refl wr).alloc (.cells #[sV []] 9)
                      have O6 := Lib.hid (OwnS.kept O5.out hal)
                      have K6 := Lib.hid (K5.out.trans hal)
                      have hc6 := (Kept.refl (wr.alloc (.cells #[sV []] 9))).new 0 (v := sV []) rfl
                      have hB6 := K6.out.size
                      go_wp2_with (at_builtin; refine wpList_pushS rfl _ _ rfl w.heap.size _ D [] wr.heap.size rfl O6.out rfl hc6 (by omega) hB6 ?_)
                      intro v7 y hy hgy
                      have K7 := Lib.hid (kept_row K6.out hgy (fun g hg => (World.ownsRow.lt O6.out g hg).1))
                      obtain ⟨g7, cap7, hv7, -⟩ := own_some hy (by simp)
                      rw [List.length_append, List.length_singleton] at hv7
                      subst hv7
                      have O7 := Lib.hid (show OwnS w.heap.size (.slice (some ⟨g7, 0, none⟩) (D.length + 1) cap7) (D ++ [[]]) y from hy)
                      have hdl7 : D.length ≤ k + 1 := by omega
                      clear hy hgy hc6 hB6 hal
                      go_wp2
                      go_roundw
                      case rel => exact ⟨k + 1, D, [], g7, cap7, by omega, rfl, by go_num, hdl7, Nat.zero_le _, HN2, O7, K7⟩
                      case measure => simp [intOf]; omega
                    | false =>
                      rw [hbr] at HBr HN
                      have HN2 := Lib.hid (show pcs l = done ++ pc cur (l.drop (k + 1)) by rw [HN.out, if_neg (by decide), D5.out])
                      clear HN hbr D5
                      go_wp2_with (go_at_call 39; refine (HBr.out _).mono ?_; rintro e w' ⟨rfl, rfl⟩)
                      go_roundw
                      case rel => exact ⟨k + 1, done, cur, g, cap, by omega, rfl, by go_num, by omega, by omega, HN2, O5, K5⟩
                      case measure => simp [intOf]; omega
                  · rw [if_neg h62] at hAs
                    have hbI : ((b.toNat : Int) != 62) = true := by
                      have : b.toNat ≠ 62 := fun e => h62 (UInt8.toNat_inj.1 e)
                      simp; omega
                    have HA2 := Lib.hid hAs.symm
                    clear hAs h62
                    go_wp2
                    go_roundw
                    case rel => exact ⟨k + 1, by omega, by omega, by go_num, HA2, hO3, hK3⟩
                    case measure => simp [intOf]; omega
                · obtain rfl : k = l.length := by omega
                  have HA2 := Lib.hid (show af = l.drop l.length by rw [← hA.out, List.drop_length]; rfl)
                  clear hA
                  have K5 := hK3
                  have O5 := hO3
                  have D5 := Lib.hid (show l.drop (l.length) = rs by rw [HR2.out, ← HA2.out])
                  cases hbr : brk nm with
                  | true =>
                    rw [hbr] at HBr HN
                    have HN2 := Lib.hid (show pcs l = (done ++ [cur]) ++ pc [] (l.drop (l.length)) by rw [HN.out, if_pos rfl, D5.out]; simp)
                    clear HN hbr D5
                    go_wp2_with fail
                    refine (HBr.out _).mono ?_
                    rintro e w' ⟨rfl, rfl⟩
                    have hDl : (done ++ [cur]).length = done.length + 1 := by simp
                    generalize done ++ [cur] = D at *
                    have hal := (Kept.refl wr).alloc (.cells #[sV []] 9)
                    have O6 := Lib.hid (OwnS.kept O5.out hal)
                    have K6 := Lib.hid (K5.out.trans hal)
                    have hc6 := (Kept.refl (wr.alloc (.cells #[sV []] 9))).new 0 (v := sV []) rfl
                    have hB6 := K6.out.size
                    go_wp2_with (at_builtin; refine wpList_pushS rfl _ _ rfl w.heap.size _ D [] wr.heap.size rfl O6.out rfl hc6 (by omega) hB6 ?_)
                    intro v7 y hy hgy
                    have K7 := Lib.hid (kept_row K6.out hgy (fun g hg => (World.ownsRow.lt O6.out g hg).1))
                    obtain ⟨g7, cap7, hv7, -⟩ := own_some hy (by simp)
                    rw [List.length_append, List.length_singleton] at hv7
                    subst hv7
                    have O7 := Lib.hid (show OwnS w.heap.size (.slice (some ⟨g7, 0, none⟩) (D.length + 1) cap7) (D ++ [[]]) y from hy)
                    have hdl7 : D.length ≤ l.length := by omega
                    clear hy hgy hc6 hB6 hal
                    go_wp2
                    go_roundw
                    case rel => exact ⟨l.length, D, [], g7, cap7, by omega, rfl, rfl, hdl7, Nat.zero_le _, HN2, O7, K7⟩
                    case measure => simp [intOf]; omega
                  | false =>
                    rw [hbr] at HBr HN
                    have HN2 := Lib.hid (show pcs l = done ++ pc cur (l.drop (l.length)) by rw [HN.out, if_neg (by decide), D5.out])
                    clear HN hbr D5
                    go_wp2_with (go_at_call 39; refine (HBr.out _).mono ?_; rintro e w' ⟨rfl, rfl⟩)
                    go_roundw
                    case rel => exact ⟨l.length, done, cur, g, cap, by omega, rfl, rfl, by omega, by omega, HN2, O5, K5⟩
                    case measure => simp [intOf]; omega
    · obtain rfl : i = l.length := by omega
      have HN := Lib.hid (show pcs l = done ++ [cur] by rw [hP.out, List.drop_length, pc_nil])
      clear hP
      go_wp2
      go_ret
      exact ⟨_, rfl, by rw [HN.out]; exact hO.out, hK.out⟩
end Go.Proofs.YtpkbcomdkamglaaGreatDoor.Pl
