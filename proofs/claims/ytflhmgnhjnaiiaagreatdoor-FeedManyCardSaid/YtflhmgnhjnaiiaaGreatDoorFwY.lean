/- The law FeedMany, walked. -/
import Derived.Test.YtflhmgnhjnaiiaaGreatDoorFwO
import Derived.Test.YtflhmgnhjnaiiaaGreatDoorFwH
import Derived.Deep.RegionHeld3
set_option linter.unusedSimpArgs false
set_option linter.unusedVariables false
namespace Go.Proofs.YtflhmgnhjnaiiaaGreatDoor.Fd
open Go.ChangeShapes Go.WideShapes Go.ChangeAt Go.RowKit
open En Xm
def pre9 : B := [60, 114, 115, 115, 62, 60, 99, 104, 97, 110, 110, 101, 108, 62]
theorem it_str (t : B) (i : Nat) : (⟨t.toArray⟩ ++ ⟨#[60, 105, 116, 101, 109, 62, 60, 103, 117, 105, 100, 62]⟩ ++ ⟨(num3 i).toArray⟩ ++ ⟨#[60, 47, 103, 117, 105, 100, 62, 60, 47, 105, 116, 101, 109, 62]⟩ : ByteArray) = ⟨(t ++ itA i).toArray⟩ := by
  apply ByteArray.ext
  simp [ByteArray.data_append, itA, itB, opn, cls, sItem, sGuid]
theorem many_str (l : List Nat) : (⟨(pre9 ++ l.flatMap itA).toArray⟩ ++ ⟨#[60, 47, 99, 104, 97, 110, 110, 101, 108, 62, 60, 47, 114, 115, 115, 62]⟩ : ByteArray) = ⟨(kMany l).toArray⟩ := by
  apply ByteArray.ext
  simp [ByteArray.data_append, kMany, tail9, pre9, opn, cls, sRss, sChan]
theorem range_it (i : Nat) : (List.range (i + 1)).flatMap itA = (List.range i).flatMap itA ++ itA i := by rw [List.range_succ, List.flatMap_append]; simp
theorem pre_len (i : Nat) (h : i ≤ 260) : (pre9 ++ (List.range i).flatMap itA).length ≤ 8000 := by
  have := flat_len (List.range i)
  rw [List.length_append, this, List.length_range]
  unfold pre9
  simp; omega
theorem heldM {W x x' : World} {b g o : Nat} {v u : Value} (k : Kept x x') (H : Kept W x ∧ x.cell? ⟨b, 1, none⟩ = some v ∧ x.cell? ⟨g, o, none⟩ = some u) : Kept W x' ∧ x'.cell? ⟨b, 1, none⟩ = some v ∧ x'.cell? ⟨g, o, none⟩ = some u :=
  ⟨H.1.trans k, k.yes H.2.1, k.yes H.2.2⟩
set_option maxRecDepth 100000 in
set_option maxHeartbeats 8000000 in
theorem many9_walk (n : Int) (w : World) (n1 : -9223372036854775808 ≤ n) (n2 : n ≤ 9223372036854775807) (hE : EX w.heap.size w) :
    Calls Tryz.prog 4 #[.int .i64 n] w fun e w' => e = .returned (.bool true) ∧ Kept w w' := by
  have HE := Lib.hid hE
  clear hE
  go_enter Tryz.func4, Tryz.ntmps4
  go_wp2_with fail
  refine (fawake_any w HE.out).mono ?_
  rintro e x1 ⟨rfl, k1⟩
  have K1 := Lib.hid k1
  clear k1
  by_cases g1 : n < 0
  · go_wp2
    go_ret
    exact ⟨rfl, K1.out⟩
  by_cases g2 : 260 < n
  · go_wp2
    go_ret
    exact ⟨rfl, K1.out⟩
  obtain ⟨m, rfl⟩ : ∃ m : Nat, n = m := ⟨n.toNat, by omega⟩
  have hm : m ≤ 260 := by omega
  have hlits : List.length [60, 114, 115, 115, 62, 60, 99, 104, 97, 110, 110, 101, 108, 62] = 14 := rfl
  go_wp2_with fail
  go_loopw [4, 5] (fun vs vi wr => ∃ (i : Nat) (t : B), i ≤ m ∧ vs = sV t ∧ vi = .int .i64 i ∧ Hid (t = pre9 ++ (List.range i).flatMap itA) ∧ t.length ≤ 8000 ∧ Hid (Kept x1 wr)) (fun _ vi _ => m - (intOf vi).toNat)
  case atStart => exact ⟨0, pre9, Nat.zero_le _, rfl, rfl, Lib.hid (by simp), by decide, Lib.hid (Kept.refl _)⟩
  case round =>
    obtain ⟨i, t, hi, rfl, rfl, hT, htl, hK⟩ := hrel
    by_cases hlt : i < m
    · have hltI : (i : Int) < m := by omega
      have HN := Lib.hid (number_any i (by omega) wr)
      have HT := Lib.hid (show t ++ itA i = pre9 ++ (List.range (i + 1)).flatMap itA by rw [hT.out, range_it, List.append_assoc])
      have HL := Lib.hid (pre_len (i + 1) (by omega))
      have hn3 : (num3 i).length = 3 := rfl
      have HS := Lib.hid (it_str t i)
      clear hT
      generalize itA i = ia at *
      generalize num3 i = nn at *
      go_wp2_with fail
      refine HN.out.mono ?_
      rintro e w2 ⟨rfl, k2⟩
      have K2 := Lib.hid (hK.out.trans k2)
      clear hK k2 HN
      go_wp2
      rw [HS.out]
      go_roundw
      case rel => exact ⟨i + 1, t ++ ia, hlt, rfl, by go_num, HT, by rw [HT.out]; exact HL.out, K2⟩
      case measure => simp [intOf]; omega
    · have hltI : ¬ (i : Int) < m := by omega
      obtain rfl : i = m := by omega
      have HST := Lib.hid (show (⟨t.toArray⟩ ++ ⟨#[60, 47, 99, 104, 97, 110, 110, 101, 108, 62, 60, 47, 114, 115, 115, 62]⟩ : ByteArray) = ⟨(kMany (List.range i)).toArray⟩ by rw [hT.out]; exact many_str _)
      have HRD := Lib.hid (many_rd Sm.rparse (List.range i) (fun j hj => by have := List.mem_range.1 hj; omega) (by simp; omega))
      have LA := Nat.le_trans (many_len (List.range i) (by simp; omega)) (show 10000 ≤ 100000 by decide)
      have HEN := Lib.hid (show ∀ j, j < i → j < 200 → (((List.range i).take 200).map enM)[j]? = some (enM j) from fun j h1 h2 => by
        rw [List.getElem?_map, List.getElem?_take, if_pos h2, List.getElem?_range h1]; rfl)
      have HLEN := Lib.hid (show (((List.range i).take 200).map enM).length = min 200 i by rw [List.length_map, List.length_take, List.length_range])
      have KX := Lib.hid (K1.out.trans hK.out)
      clear hT hK K1
      generalize ((List.range i).take 200).map enM = es at *
      generalize kMany (List.range i) = dA at *
      obtain ⟨ca, ya, hca, ka, ha⟩ := to_bytes dA wr
      have HA := Lib.hid (fread_any _ dA.length ca dA ya ((HE.out.kept (KX.out.trans ka)).mono (KX.out.trans ka).size) rfl LA (fun y k => (ha.kept k).conv))
      rw [HRD.out] at HA
      have KA := Lib.hid (KX.out.trans ka)
      have HST2 := HST.out
      clear ka ha KX LA HRD HST
      go_wp2_with fail
      refine HA.out.mono ?_
      rintro e xa ⟨kxa, va, rfl, oa⟩
      have KB := Lib.hid (KA.out.trans kxa)
      have RA := Lib.hid oa.rd
      obtain ⟨aa, cca, rfl⟩ := oa.slice
      clear oa kxa KA HA hca HST2
      simp only at RA ⊢
      have F3 := Lib.hid (show Fb xa.heap.size [] (.slice aa es.length cca) (xa.alloc (.cells #[sV [], .slice aa es.length cca] 26)) from World.alloc_heap_new xa _)
      have k3 := (Kept.refl xa).alloc (.cells #[sV [], .slice aa es.length cca] 26)
      have KC := Lib.hid (KB.out.trans k3); have RC := Lib.hid (RA.out.kept k3)
      clear k3 KB RA HE hlits
      go_upto_region 11 with (fail)
      generalize hb : xa.heap.size = b at *
      rw [show xa.alloc (.cells #[.string ⟨#[]⟩, .slice aa es.length cca] 26) = xa.alloc (.cells #[sV [], .slice aa es.length cca] 26) from rfl]
      generalize xa.alloc (.cells #[sV [], .slice aa es.length cca] 26) = x3 at *
      clear hb xa
      by_cases g3 : 200 < i
      · have hel : es.length = 200 := by have := HLEN.out; omega
        obtain ⟨c0, d0⟩ := F3.out.cells
        have hne : ((es.length : Int) != 200) = false := by rw [hel]; simp
        rw [hel] at d0 F3 RC
        have hcc : ((200 : Int) != 200) = false := by simp
        rw [hel]
        go_wp2_with fail
        have G3 := Lib.hid g3
        clear c0 d0 g3 hne hcc
        generalize decide ((200 : Int) < (i : Int)) = bq at *
        go_loopw [9] (fun vi wr => ∃ j : Nat, j ≤ 200 ∧ vi = .int .i64 j ∧ Hid (Kept x3 wr)) (fun vi _ => 200 - (intOf vi).toNat)
        case atStart => exact ⟨0, Nat.zero_le _, rfl, Lib.hid (Kept.refl _)⟩
        case round =>
          obtain ⟨j, hj, rfl, hK⟩ := hrel
          by_cases hlj : j < 200
          · have hljI : (j : Int) < 200 := by omega
            obtain ⟨c0, d0⟩ := (F3.out.kept hK.out).cells
            have hej := HEN.out j (by have := G3.out; omega) (by have := G3.out; omega)
            obtain ⟨-, ga, oa, hpa, hca, p0, -⟩ := (show EnRd (.slice aa 200 cca) es wr from RC.out.kept hK.out).at hej
            subst hpa
            have hp0 : wr.cell? ⟨ga, oa + j * 5, none⟩ = some (sV (num3 j)) := p0
            have hq0 := (Kept.refl wr).drew.yes d0
            have hq1 := (Kept.refl wr).drew.yes hp0
            clear p0 hej
            go_upto_region 18 with (fail)
            clear d0 c0 hp0
            go_region_held3 (fun x => Kept wr x ∧ x.cell? ⟨b, 1, none⟩ = some (.slice (some ⟨ga, oa, none⟩) 200 cca) ∧ x.cell? ⟨ga, oa + j * 5, none⟩ = some (sV (num3 j))) (first | exact heldM (by assumption) (by assumption) | assumption | exact ⟨(Kept.refl wr).drew, hq0, hq1⟩)
              (first | (go_at_call 11; refine (number_any j (by omega) _).mono ?_; rintro e w5 ⟨rfl, hk'⟩))
            have hK5 := Lib.hid (hK.out.trans (‹Kept wr w5 ∧ _›).1)
            clear hK hq0 hq1
            go_wp2
            go_roundw
            case rel => exact ⟨j + 1, hlj, by go_num, hK5⟩
            case measure => simp [intOf]; omega
          · have hljI : ¬ (j : Int) < 200 := by omega
            have Z := Lib.hid (KC.out.trans hK.out)
            go_wp2
            go_ret
            exact ⟨rfl, Z.out⟩
      · have hel : es.length = i := by have := HLEN.out; omega
        obtain ⟨c0, d0⟩ := F3.out.cells
        have hne : ((es.length : Int) != (i : Int)) = false := by rw [hel]; simp
        rw [hel] at d0 F3 RC
        have hcc : (((i : Int) : Int) != (i : Int)) = false := by simp
        rw [hel]
        go_wp2_with fail
        have G3 := Lib.hid g3
        clear c0 d0 g3 hne hcc
        generalize decide ((200 : Int) < (i : Int)) = bq at *
        go_loopw [9] (fun vi wr => ∃ j : Nat, j ≤ i ∧ vi = .int .i64 j ∧ Hid (Kept x3 wr)) (fun vi _ => i - (intOf vi).toNat)
        case atStart => exact ⟨0, Nat.zero_le _, rfl, Lib.hid (Kept.refl _)⟩
        case round =>
          obtain ⟨j, hj, rfl, hK⟩ := hrel
          by_cases hlj : j < i
          · have hljI : (j : Int) < (i : Int) := by omega
            obtain ⟨c0, d0⟩ := (F3.out.kept hK.out).cells
            have hej := HEN.out j (by have := G3.out; omega) (by have := G3.out; omega)
            obtain ⟨-, ga, oa, hpa, hca, p0, -⟩ := (show EnRd (.slice aa i cca) es wr from RC.out.kept hK.out).at hej
            subst hpa
            have hp0 : wr.cell? ⟨ga, oa + j * 5, none⟩ = some (sV (num3 j)) := p0
            have hq0 := (Kept.refl wr).drew.yes d0
            have hq1 := (Kept.refl wr).drew.yes hp0
            clear p0 hej
            go_upto_region 18 with (fail)
            clear d0 c0 hp0
            go_region_held3 (fun x => Kept wr x ∧ x.cell? ⟨b, 1, none⟩ = some (.slice (some ⟨ga, oa, none⟩) i cca) ∧ x.cell? ⟨ga, oa + j * 5, none⟩ = some (sV (num3 j))) (first | exact heldM (by assumption) (by assumption) | assumption | exact ⟨(Kept.refl wr).drew, hq0, hq1⟩)
              (first | (go_at_call 11; refine (number_any j (by omega) _).mono ?_; rintro e w5 ⟨rfl, hk'⟩))
            have hK5 := Lib.hid (hK.out.trans (‹Kept wr w5 ∧ _›).1)
            clear hK hq0 hq1
            go_wp2
            go_roundw
            case rel => exact ⟨j + 1, hlj, by go_num, hK5⟩
            case measure => simp [intOf]; omega
          · have hljI : ¬ (j : Int) < (i : Int) := by omega
            have Z := Lib.hid (KC.out.trans hK.out)
            go_wp2
            go_ret
            exact ⟨rfl, Z.out⟩
end Go.Proofs.YtflhmgnhjnaiiaaGreatDoor.Fd
