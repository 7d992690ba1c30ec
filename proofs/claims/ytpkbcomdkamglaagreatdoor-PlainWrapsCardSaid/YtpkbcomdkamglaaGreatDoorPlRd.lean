/- The document's answer for package plain: the plain text; words; lines, wrapped; are lists the same. -/
import Derived.Test.YtpkbcomdkamglaaGreatDoorPlRc
import Derived.Test.YtpkbcomdkamglaaGreatDoorPlOf
import Derived.Test.YtpkbcomdkamglaaGreatDoorPlWp
import Derived.Test.YtpkbcomdkamglaaGreatDoorPlFl
import Derived.Test.YtpkbcomdkamglaaGreatDoorEnRefH
set_option linter.unusedSimpArgs false
set_option linter.unusedVariables false
namespace Go.Proofs.YtpkbcomdkamglaaGreatDoor.Pl
open Go.ChangeShapes Go.WideShapes Go.ChangeAt Go.RowKit
open En
/-- the plain text of some pieces -/
def ofA (ps : List B) (i : Nat) : B := ((ps.take i).map lin).foldl addL []
theorem ofA_step {ps : List B} {i : Nat} {p : B} (h : ps[i]? = some p) : ofA ps (i + 1) = addL (ofA ps i) (lin p) := by
  unfold ofA
  rw [List.take_add_one, h, List.map_append, List.foldl_append]; rfl
theorem ofA_len (ps : List B) (i : Nat) (h : ∀ p ∈ ps, (lin p).length ≤ 200000) (hn : ps.length ≤ 100001) : (ofA ps i).length ≤ 20000300001 := by
  have h1 := fold_len 200000 ((ps.take i).map lin) [] (fun t ht => by
    rw [List.mem_map] at ht
    obtain ⟨p, hp, rfl⟩ := ht
    exact h p (List.mem_of_mem_take hp))
  rw [List.length_map, List.length_take, List.length_nil, Nat.zero_add] at h1
  have h2 : min i ps.length * (200000 + 1) ≤ 100001 * (200000 + 1) := Nat.mul_le_mul_right _ (by omega)
  exact Nat.le_trans h1 (Nat.le_trans h2 (by decide))
set_option maxRecDepth 100000 in
set_option maxHeartbeats 4000000 in
theorem rof_any (l : B) (w : World) (hl : l.length ≤ 100000) : Calls Tryz.prog 10 #[.string ⟨l.toArray⟩] w fun e w' => e = .returned (.string ⟨(ofP l).toArray⟩) ∧ Kept w w' := by
  have hm := pcs_mem l
  have hn := pcs_len l
  have hne := pc_ne [] l
  have HF := Lib.hid (show ofP l = ofA (pcs l) (pcs l).length by unfold ofA ofP; rw [List.take_length])
  have HP := Lib.hid (fun w => rpieces_any l w hl)
  have HB : ∀ p ∈ pcs l, (lin p).length ≤ 200000 := fun p hp => by have := lin_len p; have := hm p hp; omega
  rw [show pc [] l = pcs l from rfl] at hne
  generalize ofP l = z at *
  generalize pcs l = ps at *
  have HX := Lib.hid HB
  clear HB
  go_enter Tryz.func10, Tryz.ntmps10
  go_wp2_with fail
  refine (HP.out _).mono ?_
  rintro e w1 ⟨v, rfl, hv, k1⟩
  have hps : 0 < ps.length := List.length_pos_iff.2 hne
  obtain ⟨g, cap, rfl, hc⟩ := OutS.at (show OutS w.heap.size v ps w1 from hv) hps
  have HC := Lib.hid hc
  have K1 := Lib.hid k1
  have hcap : ps.length ≤ cap := by
    rcases hv.2 with ⟨h1, h2⟩ | ⟨g', cap', cur, h1, h2, h3, h4, _⟩
    · omega
    · injection h1 with e1 _ e3
      subst e3
      exact h4
  clear hv hc k1 hne
  go_wp2_with fail
  go_loopw [4, 5] (fun vt vi wr => ∃ i : Nat, i ≤ ps.length ∧ vi = .int .i64 i ∧ vt = .string ⟨(ofA ps i).toArray⟩ ∧ Hid (Kept w1 wr)) (fun _ vi _ => ps.length - (intOf vi).toNat)
  case atStart => exact ⟨0, Nat.zero_le _, rfl, rfl, Lib.hid (Kept.refl _)⟩
  case round =>
    obtain ⟨i, hi, rfl, rfl, hK⟩ := hrel
    by_cases hlt : i < ps.length
    · have hltI : (i : Int) < ps.length := by omega
      obtain ⟨p, hp⟩ : ∃ p, ps[i]? = some p := ⟨_, List.getElem?_eq_getElem hlt⟩
      have hpm := List.mem_of_getElem? hp
      have hpl := hm p hpm
      have hc0 := hK.out.yes (HC.out i p hp)
      have HN := Lib.hid (ofA_step hp)
      have hal := ofA_len ps i HX.out (by omega)
      have hll := HX.out p hpm
      have HL := Lib.hid (fun w => rloose_any p w (by omega))
      have HT := Lib.hid (fun w => rtrim_any (gone p).1 w (by have := gone_len _ p (Nat.le_refl _); omega))
      rw [show tr (gone p).1 = lin p from rfl] at HT
      generalize ofA ps i = acc at *
      generalize lin p = t at *
      generalize (gone p).1 = q at *
      go_wp2_with fail
      refine (HL.out _).mono ?_
      rintro e w2 ⟨rfl, k2⟩
      go_wp2_with fail
      refine (HT.out _).mono ?_
      rintro e w3 ⟨rfl, k3⟩
      have KK := Lib.hid ((hK.out.trans k2).trans k3)
      clear k2 k3 hK
      by_cases ht : t = []
      · subst ht
        have HD := Lib.hid (show ofA ps (i + 1) = acc by rw [HN.out]; rfl)
        clear HN
        go_wp2
        go_roundw
        case rel => exact ⟨i + 1, hlt, by go_num, by rw [HD.out], KK⟩
        case measure => simp [intOf]; omega
      · have hte : t.isEmpty = false := by cases t with
          | nil => exact absurd rfl ht
          | cons a r => rfl
        by_cases ha : acc = []
        · subst ha
          have HD := Lib.hid (show ofA ps (i + 1) = [] ++ t by rw [HN.out]; unfold addL; rw [if_neg ht, if_pos rfl]; rfl)
          have happ : (⟨([] : B).toArray⟩ ++ ⟨t.toArray⟩ : ByteArray) = ⟨([] ++ t : B).toArray⟩ := app_mk [] t
          have hbig : ¬ 9223372036854775807 < ([] : B).length + t.length := by simp; omega
          clear HN ht
          go_wp2
          go_roundw
          case rel => exact ⟨i + 1, hlt, by go_num, by rw [HD.out]; simp, KK⟩
          case measure => simp [intOf]; omega
        · have hae : acc.isEmpty = false := by cases acc with
            | nil => exact absurd rfl ha
            | cons a r => rfl
          have HD := Lib.hid (show ofA ps (i + 1) = acc ++ [10] ++ t by rw [HN.out]; unfold addL; rw [if_neg ht, if_neg ha])
          have happ1 : (⟨acc.toArray⟩ ++ ⟨#[10]⟩ : ByteArray) = ⟨(acc ++ [10]).toArray⟩ := app_mk acc [10]
          have happ2 : (⟨(acc ++ [10]).toArray⟩ ++ ⟨t.toArray⟩ : ByteArray) = ⟨(acc ++ [10] ++ t).toArray⟩ := app_mk (acc ++ [10]) t
          have hl10 : (acc ++ [10]).length ≤ 20000300002 := by simp; omega
          clear HN ht ha
          generalize acc ++ [10] ++ t = a2 at *
          generalize acc ++ [10] = a1 at *
          go_wp2
          go_roundw
          case rel => exact ⟨i + 1, hlt, by go_num, by rw [HD.out], KK⟩
          case measure => simp [intOf]; omega
    · obtain rfl : i = ps.length := by omega
      have KK := K1.out.trans hK.out
      go_wp2
      go_ret
      exact ⟨by rw [HF.out]; rfl, KK⟩
theorem rwords_any (l : B) (w : World) (hl : l.length ≤ 1000) : Calls Tryz.prog 11 #[.string ⟨l.toArray⟩] w fun e w' => ∃ v, e = .returned v ∧ OwnS w.heap.size v (wds l) w' ∧ Kept w w' := by
  have htl := tr_le l
  have HT := Lib.hid (fun w => rtrim_any l w (by omega))
  have HD := Lib.hid (show wds l = if tr l = [] then [] else splt 32 (tr l) from rfl)
  generalize tr l = t at *
  generalize wds l = z at *
  have HS := Lib.hid (fun w => rsplit_any 32 t w (by omega))
  go_enter Tryz.func11, Tryz.ntmps11
  go_wp2_with fail
  refine (HT.out _).mono ?_
  rintro e w1 ⟨rfl, k1⟩
  by_cases ht : t = []
  · subst ht
    have HZ := Lib.hid (show z = [] by rw [HD.out, if_pos rfl])
    clear HD
    go_wp2
    go_ret
    exact ⟨_, rfl, by rw [HZ.out]; exact World.ownsRow_nil _ _ _ _, k1⟩
  · have hte : t.isEmpty = false := by cases t with
      | nil => exact absurd rfl ht
      | cons a r => rfl
    have HZ := Lib.hid (show z = splt 32 t by rw [HD.out, if_neg ht])
    clear HD ht
    go_wp2_with fail
    refine (HS.out _).mono ?_
    rintro e w2 ⟨v, rfl, hv, k2⟩
    have hv2 : OwnS w.heap.size v (splt 32 t) w2 := own_mono (show OwnS w1.heap.size v (splt 32 t) w2 from hv) k1.size
    obtain ⟨ao, cp, rfl⟩ := own_slice hv2
    have HV := Lib.hid hv2
    have K2 := Lib.hid (k1.trans k2)
    clear hv hv2 k1 k2
    go_wp2
    go_ret
    exact ⟨_, rfl, by rw [HZ.out]; exact HV.out, K2.out⟩
set_option maxRecDepth 100000 in
set_option maxHeartbeats 4000000 in
theorem rsame_any (va vb : Value) (xs ys : List B) (na nb : Nat) (w : World) (ha : OwnS na va xs w) (hb : OwnS nb vb ys w) (hla : xs.length ≤ 10000000) (hlb : ys.length ≤ 10000000) : Calls Tryz.prog 6 #[va, vb] w fun e w' => e = .returned (.bool (xs == ys)) ∧ Kept w w' := by
  obtain ⟨aa, ca, rfl⟩ := own_slice ha
  obtain ⟨ab, cb, rfl⟩ := own_slice hb
  by_cases hlen : xs.length = ys.length
  · have HA := Lib.hid ha
    have HBb := Lib.hid hb
    have hlI : ((xs.length : Int) != (ys.length : Int)) = false := by simp [hlen]
    have HLn := Lib.hid hlen
    clear ha hb hlen
    go_enter Tryz.func6, Tryz.ntmps6
    go_wp2
    go_loopw [5] (fun vi wr => ∃ i : Nat, i ≤ xs.length ∧ vi = .int .i64 i ∧ Hid (xs.take i = ys.take i) ∧ Hid (Kept w wr)) (fun vi _ => xs.length - (intOf vi).toNat)
    case atStart => exact ⟨0, Nat.zero_le _, rfl, Lib.hid rfl, Lib.hid (Kept.refl _)⟩
    case round =>
      obtain ⟨i, hi, rfl, hT, hK⟩ := hrel
      by_cases hlt : i < xs.length
      · have hltI : (i : Int) < xs.length := by omega
        have hltB : i < ys.length := by have := HLn.out; omega
        have hltBI : (i : Int) < ys.length := by omega
        obtain ⟨x, hx⟩ : ∃ x, xs[i]? = some x := ⟨_, List.getElem?_eq_getElem hlt⟩
        obtain ⟨y, hy⟩ : ∃ y, ys[i]? = some y := ⟨_, List.getElem?_eq_getElem hltB⟩
        obtain ⟨g1, c1, e1, hc1⟩ := OutS.at (show OutS na _ xs w from HA.out) (show 0 < xs.length by omega)
        obtain ⟨g2, c2, e2, hc2⟩ := OutS.at (show OutS nb _ ys w from HBb.out) (show 0 < ys.length by omega)
        injection e1 with e11 _ e13
        injection e2 with e21 _ e23
        subst e11 e13 e21 e23
        have d1 := hK.out.yes (hc1 i x hx)
        have d2 := hK.out.yes (hc2 i y hy)
        have hca : xs.length ≤ ca := by
          rcases HA.out.2 with ⟨h1, h2⟩ | ⟨g', cap', cur, h1, h2, h3, h4, _⟩
          · omega
          · injection h1 with e1 _ e3; subst e3; exact h4
        have hcb : ys.length ≤ cb := by
          rcases HBb.out.2 with ⟨h1, h2⟩ | ⟨g', cap', cur, h1, h2, h3, h4, _⟩
          · omega
          · injection h1 with e1 _ e3; subst e3; exact h4
        clear hc1 hc2
        have hbn : ((ByteArray.mk x.toArray) != (ByteArray.mk y.toArray)) = !(x == y) := by rw [bne, ba_beq]; cases q : (x == y) <;> simp_all
        cases hq : (x == y) with
        | true =>
          have hT2 := Lib.hid (take_eq hT.out hx hy (by simpa using hq))
          rw [hq] at hbn
          have hqn : (x != y) = false := by rw [bne, hq]; rfl
          clear hx hy hT
          go_upto_region 6 with (fail)
          go_quiet (fail)
          go_wp2
          go_roundw
          case rel => exact ⟨i + 1, hlt, by go_num, hT2, Lib.hid (hK.out.drewN _)⟩
          case measure => simp [intOf]; omega
        | false =>
          have HR := Lib.hid (show (xs == ys) = false by rw [beq_eq_false_iff_ne]; exact take_ne hx hy (by simpa using hq))
          rw [hq] at hbn
          have hqn : (x != y) = true := by rw [bne, hq]; rfl
          clear hx hy hT
          go_upto_region 6 with (fail)
          go_quiet (fail)
          go_wp2
          go_ret
          exact ⟨by rw [HR.out]; rfl, hK.out.drewN _⟩
      · obtain rfl : i = xs.length := by omega
        have HR := Lib.hid (show (xs == ys) = true by
          rw [beq_iff_eq]
          have := hT.out
          rw [List.take_length, HLn.out, List.take_length] at this
          exact this)
        clear hT
        go_wp2
        go_ret
        exact ⟨by rw [HR.out]; rfl, hK.out⟩
  · have hlI : ((xs.length : Int) != (ys.length : Int)) = true := by simp; omega
    have HR := Lib.hid (show (xs == ys) = false by rw [beq_eq_false_iff_ne]; exact fun e => hlen (by rw [e]))
    clear ha hb hlen
    go_enter Tryz.func6, Tryz.ntmps6
    go_wp2
    go_ret
    exact ⟨by rw [HR.out]; rfl, Kept.refl _⟩
end Go.Proofs.YtpkbcomdkamglaaGreatDoor.Pl
