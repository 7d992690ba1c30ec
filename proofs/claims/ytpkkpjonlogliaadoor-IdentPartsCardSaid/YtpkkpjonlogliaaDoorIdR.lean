/- The document's own answers of layer ident. -/
import Derived.Test.YtpkkpjonlogliaaDoorIdC
import Derived.Test.YtpkkpjonlogliaaDoorEnRefB
import Derived.Deep.Cut
import Derived.Deep.CutBlock
set_option linter.unusedSimpArgs false
set_option linter.unusedVariables false
namespace Go.Proofs.YtpkkpjonlogliaaDoor
open Go.ChangeShapes Go.WideShapes Go.ChangeAt Go.RowKit
open En Idn
theorem new_cell (w : World) (cs : Array Value) (t : TypeId) (j : Nat) (v : Value) (h : cs[j]? = some v) : (w.alloc (.cells cs t)).cell? ⟨w.heap.size, j, none⟩ = some v := by
  unfold World.cell?
  rw [show (w.alloc (.cells cs t)).heap = w.heap.push (.cells cs t) from rfl]
  simp [h]
theorem begins_len {t s : List UInt8} (h : begins t s = true) : s.length ≤ t.length := by
  unfold begins at h
  simp only [Bool.and_eq_true, decide_eq_true_eq] at h
  exact h.1
theorem small_step (l : List UInt8) (k : Nat) (a : UInt8) (h : l[k]? = some a) : (l.take (k + 1)).map Lib.lowerB = (l.take k).map Lib.lowerB ++ [Lib.lowerB a] := by
  rw [List.take_add_one, h]; simp
theorem app_mk (a b : List UInt8) : (⟨a.toArray⟩ ++ ⟨b.toArray⟩ : ByteArray) = ⟨(a ++ b).toArray⟩ := by
  apply ByteArray.ext; simp [ByteArray.data_append]
set_option maxHeartbeats 1000000 in
set_option maxRecDepth 100000 in
theorem rsmall_any (l : List UInt8) (w : World) (hl : l.length ≤ 1000000) : Calls Tryd.prog 18 #[.string ⟨l.toArray⟩] w fun e w' => e = .returned (.string ⟨(l.map Lib.lowerB).toArray⟩) ∧ Kept w w' := by
  have hcb : ∀ (W : World) (b : UInt8), (convert 49 9 (.slice (some ⟨W.heap.size, 0, none⟩) 1 1)).run Tryd.prog (W.alloc (.cells #[.int .u8 b.toNat] 5)) = .ok (.string ⟨[b].toArray⟩) (W.alloc (.cells #[.int .u8 b.toNat] 5)) := by
    intro W b
    refine run_convert_bytes_back _ _ _ _ _ 1 [b] Tryd.underlying49 Tryd.underlying5 Tryd.underlying9 ?_
    intro j hj
    obtain rfl : j = 0 := by simp at hj; omega
    have := new_cell W #[.int .u8 b.toNat] 5 0 _ rfl
    simp [Addr.add]
  go_enter Tryd.func18, Tryd.ntmps18
  go_wp2_with fail
  go_loopw [3, 4] (fun a i y => ∃ k : Nat, k ≤ l.length ∧ i = .int .i64 k ∧ a = .string ⟨((l.take k).map Lib.lowerB).toArray⟩ ∧ Kept w y) (fun _ i _ => l.length - (intOf i).toNat)
  case atStart => exact ⟨0, Nat.zero_le _, rfl, rfl, Kept.refl _⟩
  case round =>
    obtain ⟨k, hk, rfl, rfl, hkp⟩ := hrel
    by_cases hlt : k < l.length
    · obtain ⟨a, ha⟩ : ∃ a, l[k]? = some a := ⟨_, List.getElem?_eq_getElem hlt⟩
      have HS := Lib.hid (small_step l k a ha)
      have hat := byte_at l k a ha
      have KP := Lib.hid hkp
      have hlen : ((l.take k).map Lib.lowerB).length = k := by simp; omega
      generalize (l.take k).map Lib.lowerB = s at *
      clear ha hkp
      by_cases g1 : (65 : Int) ≤ (a.toNat : Int) ∧ (a.toNat : Int) ≤ 90
      · obtain ⟨g1, g2⟩ := g1
        have hw : ((Lib.lowerB a).toNat : Int) = (a.toNat : Int) + 32 := by
          have h1 : (65 : UInt8) ≤ a := by rw [UInt8.le_iff_toNat_le]; show 65 ≤ a.toNat; omega
          have h2 : a ≤ (90 : UInt8) := by rw [UInt8.le_iff_toNat_le]; show a.toNat ≤ 90; omega
          unfold Lib.lowerB Lib.isUpperB
          simp [h1, h2, UInt8.toNat_add]; omega
        have hc2 := fun W => hcb W (Lib.lowerB a)
        rw [hw] at hc2
        generalize Lib.lowerB a = b at *
        clear hw hcb
        go_wp2
        go_roundw
        case rel => exact ⟨k + 1, hlt, by go_num, by rw [HS.out, ← app_mk], KP.out.alloc _⟩
        case measure => simp [intOf]; omega
      · have hw : Lib.lowerB a = a := by
          unfold Lib.lowerB Lib.isUpperB
          by_cases h1 : (65 : UInt8) ≤ a
          · have h2 : ¬ a ≤ (90 : UInt8) := by
              rw [UInt8.le_iff_toNat_le]; rw [UInt8.le_iff_toNat_le] at h1
              change 65 ≤ a.toNat at h1; change ¬ a.toNat ≤ 90; omega
            simp [h2]
          · simp [h1]
        rw [hw] at HS
        have hc2 := fun W => hcb W a
        clear hw hcb
        by_cases g2 : (65 : Int) ≤ (a.toNat : Int)
        · have g3 : ¬ (a.toNat : Int) ≤ 90 := by omega
          clear g1
          go_wp2
          go_roundw
          case rel => exact ⟨k + 1, hlt, by go_num, by rw [HS.out, ← app_mk], KP.out.alloc _⟩
          case measure => simp [intOf]; omega
        · clear g1
          go_wp2
          go_roundw
          case rel => exact ⟨k + 1, hlt, by go_num, by rw [HS.out, ← app_mk], KP.out.alloc _⟩
          case measure => simp [intOf]; omega
    · have hE := Lib.hid (show l.take k = l by rw [List.take_of_length_le (by omega)])
      go_wp2
      go_ret
      rw [hE.out]
      exact ⟨rfl, hkp⟩
set_option maxRecDepth 100000 in
set_option maxHeartbeats 4000000 in
theorem rbegins_any (t s : List UInt8) (w : World) (hl : t.length ≤ 200000) (hsl : s.length ≤ 10) : Calls Tryd.prog 27 #[.string ⟨t.toArray⟩, .string ⟨s.toArray⟩] w fun e w' => e = .returned (.bool (begins t s)) ∧ Kept w w' := by
  by_cases hlt : t.length < s.length
  · have hltI : ¬ (s.length : Int) ≤ t.length := by omega
    have HB := Lib.hid (show begins t s = false by unfold begins; rw [decide_eq_false (by omega)]; rfl)
    clear hlt
    generalize begins t s = bg at *
    go_enter Tryd.func27, Tryd.ntmps27
    go_wp2
    go_ret
    exact ⟨by rw [HB.out]; rfl, Kept.refl _⟩
  · have hltI : (s.length : Int) ≤ t.length := by omega
    have hct := cut_to t s.length (by omega)
    have HL := Lib.hid (fun w => rsmall_any (t.take s.length) w (by rw [List.length_take]; omega))
    have HB := Lib.hid (show begins t s = (lo (t.take s.length) == s) by unfold begins; rw [decide_eq_true (by omega), Bool.true_and])
    rw [show (t.take s.length).map Lib.lowerB = lo (t.take s.length) from rfl] at HL
    generalize begins t s = bg at *
    generalize lo (t.take s.length) = x at *
    generalize t.take s.length = y at *
    have hsb := ba_beq x s
    cases hb : (x == s) with
    | true =>
      have HE := Lib.hid (show x = s from by simpa using hb)
      go_enter Tryd.func27, Tryd.ntmps27
      go_wp2_with fail
      refine (HL.out _).mono ?_
      rintro e w1 ⟨rfl, k1⟩
      go_wp2
      go_ret
      exact ⟨by rw [HB.out, hb]; simp [HE.out], k1⟩
    | false =>
      have HE := Lib.hid (show x ≠ s from by simpa using hb)
      go_enter Tryd.func27, Tryd.ntmps27
      go_wp2_with fail
      refine (HL.out _).mono ?_
      rintro e w1 ⟨rfl, k1⟩
      go_wp2
      go_ret
      exact ⟨by rw [HB.out, hb]; simp [HE.out], k1⟩
theorem rtrim_any' (l : List UInt8) (w : World) (hl : l.length ≤ 1000000) : Calls Tryd.prog 26 #[.string ⟨l.toArray⟩] w fun e w' => e = .returned (.string ⟨(tr l).toArray⟩) ∧ Kept w w' := rtrim_any l w hl
theorem suf_iff {p h : List UInt8} : p.isSuffixOf h = true ↔ p.length ≤ h.length ∧ h.drop (h.length - p.length) = p := by
  rw [List.isSuffixOf_iff_suffix, List.suffix_iff_eq_drop]
  constructor
  · intro e
    refine ⟨?_, e.symm⟩
    have := congrArg List.length e
    rw [List.length_drop] at this
    omega
  · exact fun e => e.2.symm
theorem any_stop {l : List UInt8} {p : Nat} {c : UInt8} (h : AnyI l p) (hc : l[p]? = some c) (he : isEnd c = true) : p = (hostOf l).length := (any_hit h hc he).symm
theorem any_one {l : List UInt8} {p : Nat} {c : UInt8} (h : AnyI l p) (hc : l[p]? = some c) (he : isEnd c = false) : AnyI l (p + 1) := by
  have hp := (List.getElem?_eq_some_iff.1 hc).1
  refine any_next (t := [c]) h ?_ (by omega) (fun d hd => by simp at hd; subst hd; exact he)
  rw [List.take_add_one, hc]; rfl
/-- how far the rest has been read -/
def HsI (r : List UInt8) (j : Nat) : Prop := j ≤ r.length ∧ ∀ c ∈ r.take j, c ≠ 35
theorem HsI.one {r : List UInt8} {j : Nat} {c : UInt8} (h : HsI r j) (hc : r[j]? = some c) (he : c ≠ 35) : HsI r (j + 1) := by
  have hp := (List.getElem?_eq_some_iff.1 hc).1
  refine ⟨by omega, fun d hd => ?_⟩
  rw [List.take_add_one, hc, List.mem_append] at hd
  rcases hd with hd | hd
  · exact h.2 d hd
  · simp at hd; subst hd; exact he
theorem HsI.stop {r : List UInt8} {j : Nat} (h : HsI r j) (hc : r[j]? = some 35) : r.take j = toHash r := by
  have e : r = r.take j ++ 35 :: r.drop (j + 1) := by
    obtain ⟨h1, h2⟩ := List.getElem?_eq_some_iff.1 hc
    rw [← h2, List.getElem_cons_drop, List.take_append_drop]
  have := (takeWhile_stop (p := fun c => c != 35) (l := r.take j) (d := 35) (r := r.drop (j + 1)) (fun d hd => by simpa using h.2 d hd) (by decide)).1
  rw [← e] at this
  exact this.symm
theorem HsI.fin {r : List UInt8} (h : HsI r r.length) : r = toHash r := by
  have h2 := h.2
  rw [List.take_length] at h2
  exact (takeWhile_all fun d hd => by simpa using h2 d hd).symm
theorem byte_list {l : List UInt8} {k : Nat} {a : UInt8} (h : l[k]? = some a) : ∀ (q : k < l.length), l[k] = a := fun q => by
  rw [List.getElem?_eq_getElem q] at h
  exact Option.some.inj h
theorem end_ne {c : UInt8} (h : isEnd c = false) (d : UInt8) (hd : isEnd d = true) : ¬ (c.toNat : Int) = (d.toNat : Int) := fun e => by
  have : c = d := UInt8.toNat_inj.1 (by omega)
  rw [this, hd] at h
  cases h
theorem end_one {c : UInt8} (h : isEnd c = true) : c = 47 ∨ c = 63 ∨ c = 35 := by simpa [isEnd, or_assoc] using h
set_option maxRecDepth 100000 in
set_option maxHeartbeats 16000000 in
theorem rnorm_any (l : List UInt8) (w : World) (hl : l.length ≤ 100000) : Calls Tryd.prog 16 #[.string ⟨l.toArray⟩] w fun e w' => e = .returned (.string ⟨(norm l).toArray⟩) ∧ Kept w w' := by
  have htl := tr_len l
  have HN := Lib.hid (show norm l = normT (tr l) from rfl)
  have HT := Lib.hid (rtrim_any l w (by omega))
  generalize tr l = t at *
  generalize norm l = z at *
  have HB1 := Lib.hid (fun w => rbegins_any t sch1 w (by omega) (by decide))
  have HB2 := Lib.hid (fun w => rbegins_any t sch2 w (by omega) (by decide))
  go_enter Tryd.func16, Tryd.ntmps16
  go_wp2_with fail
  refine HT.out.mono ?_
  rintro e w1 ⟨rfl, k1⟩
  go_wp2_with fail
  refine (HB1.out _).mono ?_
  rintro e w2 ⟨rfl, k2⟩
  go_wp2_with fail
  refine (HB2.out _).mono ?_
  rintro e w3 ⟨rfl, k3⟩
  have K3 := Lib.hid (k1.trans (k2.trans k3))
  clear k1 k2 k3 HT HB1 HB2
  cases hb1 : begins t sch1 with
  | true =>
    have HZ := Lib.hid (show z = sch1 ++ hostS port1 (t.drop 7) ++ restS (t.drop 7) by rw [HN.out]; unfold normT; rw [if_pos hb1]; rfl)
    have hlen := begins_len hb1
    rw [show sch1.length = 7 from rfl] at hlen
    have hcf := cut_from t (7 : Int) 7 rfl hlen
    have htk : (t.drop 7).length ≤ 100000 := by rw [List.length_drop]; omega
    have hb2 := begins_both hb1
    rw [hb2]
    clear hb1 hb2 HN hlen
    generalize t.drop 7 = a at *
    have hho : (hostOf a).length ≤ a.length := take_len _ a
    go_upto_block 0 with (fail)
    go_cut [8] from 27 (fun vi wx => vi = .int .i64 (hostOf a).length ∧ wx = w3)
    case first =>
      clear HZ
      go_wp2_with fail
      go_loopw [8] (fun vi wr => ∃ i : Nat, vi = .int .i64 i ∧ i ≤ a.length ∧ wr = w3 ∧ Hid (AnyI a i)) (fun vi _ => a.length - (intOf vi).toNat)
      case atStart => exact ⟨0, rfl, Nat.zero_le _, rfl, Lib.hid ⟨Nat.zero_le _, fun c hc => by simp at hc⟩⟩
      case round =>
        obtain ⟨i, rfl, hi, rfl, hA⟩ := hrel
        by_cases hlt : i < a.length
        · have hltI : (i : Int) < a.length := by omega
          obtain ⟨c, hc⟩ : ∃ c, a[i]? = some c := ⟨_, List.getElem?_eq_getElem hlt⟩
          have hat := byte_at a i c hc
          cases he : isEnd c with
          | false =>
            have HN2 := Lib.hid (any_one hA.out hc he)
            have c1 : ((c.toNat : Int) != 47) = true := bne_iff_ne.2 (end_ne he 47 (by decide))
            have c2 : ((c.toNat : Int) != 63) = true := bne_iff_ne.2 (end_ne he 63 (by decide))
            have c3 : ((c.toNat : Int) != 35) = true := bne_iff_ne.2 (end_ne he 35 (by decide))
            clear hc he hA
            go_wp2
            go_roundw
            case rel => exact ⟨i + 1, by go_num, hlt, trivial, HN2⟩
            case measure => simp [intOf]; omega
          | true =>
            have HE := Lib.hid (any_stop hA.out hc he)
            rcases end_one he with rfl | rfl | rfl
            · clear hc he hA
              go_wp2
              go_meet
              case rel => exact ⟨by rw [← HE.out], rfl⟩
            · clear hc he hA
              go_wp2
              go_meet
              case rel => exact ⟨by rw [← HE.out], rfl⟩
            · clear hc he hA
              go_wp2
              go_meet
              case rel => exact ⟨by rw [← HE.out], rfl⟩
        · have hltI : ¬ (i : Int) < a.length := by omega
          have HE := Lib.hid (show i = (hostOf a).length by have h2 := hA.out; rw [show i = a.length by omega] at h2 ⊢; exact (any_end h2).symm)
          go_wp2
          go_meet
          case rel => exact ⟨by rw [← HE.out], rfl⟩
    case rest =>
      obtain ⟨rfl, hwc⟩ := hcut
      have hwd := hwc.symm
      clear hwc
      subst hwd
      have hct := cut_to a (hostOf a).length hho
      rw [show a.take (hostOf a).length = hostOf a from tw_take _ a] at hct
      have HS := Lib.hid (fun w => rsmall_any (hostOf a) w (by omega))
      rw [show (hostOf a).map Lib.lowerB = lo (hostOf a) from rfl] at HS
      have hll : (lo (hostOf a)).length = (hostOf a).length := List.length_map _
      have HHS := Lib.hid (show hostS port1 a = strip port1 (lo (hostOf a)) from rfl)
      have hra : restOf a = a.drop (hostOf a).length := (tw_drop _ a).symm
      have HRS := Lib.hid (show restS a = slashed (tr (toHash (restOf a))) from rfl)
      rw [hra] at HRS
      have hrl : (a.drop (hostOf a).length).length = a.length - (hostOf a).length := List.length_drop
      clear hra
      generalize lo (hostOf a) = h0 at *
      generalize hn : (hostOf a).length = n at *
      clear hn
      generalize hostOf a = hh at *
      have hsl0 : (hostS port1 a).length ≤ 100000 := by have := hostS_len port1 a; omega
      generalize hostS port1 a = hs at *
      generalize restS a = rs at *
      go_wp2_with fail
      refine (HS.out _).mono ?_
      rintro e w4 ⟨rfl, k4⟩
      have K4 := Lib.hid (K3.out.trans k4)
      clear k4 K3 HS hct
      go_upto_block 2 with (fail)
      go_cut [9] from 55 (fun vh wx => vh = .string ⟨hs.toArray⟩ ∧ wx = w4)
      case first =>
        clear HZ HRS hcf
        go_wp2_with fail
        go_loopw [9] (fun vh wr => ∃ h : List UInt8, vh = .string ⟨h.toArray⟩ ∧ wr = w4 ∧ h.length ≤ 100000 ∧ Hid (hs = strip port1 h)) (fun vh _ => (match vh with | .string s => s.size | _ => 0))
        case atStart => exact ⟨h0, rfl, rfl, by omega, HHS⟩
        case round =>
          obtain ⟨h, rfl, rfl, hhl, hZ⟩ := hrel
          have hsz : (ByteArray.mk h.toArray).size = h.length := List.size_toArray
          by_cases hle : 3 ≤ h.length
          · have hleI : (3 : Int) ≤ h.length := by omega
            have hcd := cut_from h ((h.length : Int) - 3) (h.length - 3) (by omega) (by omega)
            cases hq : (h.drop (h.length - 3) == port1) with
            | true =>
              have hq2 : port1.isSuffixOf h = true := suf_iff.2 ⟨hle, by rw [show port1.length = 3 from rfl]; simpa using hq⟩
              have HN := Lib.hid (hZ.out.trans (strip_step (by decide) hq2))
              have hct := cut_to h (h.length - 3) (by omega)
              rw [show ((h.length - 3 : Nat) : Int) = (h.length : Int) - 3 by omega] at hct
              have htl : (h.take (h.length - 3)).length < h.length := by rw [List.length_take]; omega
              have hqe : h.drop (h.length - 3) = port1 := by simpa using hq
              rw [hqe] at hcd
              rw [show port1.length = 3 from rfl] at HN
              clear hq hq2 hqe hZ
              go_wp2
              go_roundw
              case rel => exact ⟨_, rfl, trivial, by omega, HN⟩
              case measure =>
                show (ByteArray.mk (h.take (h.length - 3)).toArray).size < (ByteArray.mk h.toArray).size
                rw [hsz, show (ByteArray.mk (h.take (h.length - 3)).toArray).size = (h.take (h.length - 3)).length from List.size_toArray]; exact htl
            | false =>
              have hq2 : port1.isSuffixOf h = false := by
                cases hx : port1.isSuffixOf h with
                | false => rfl
                | true =>
                  have := (suf_iff.1 hx).2
                  rw [show port1.length = 3 from rfl] at this
                  rw [this] at hq
                  simp at hq
              have HN := Lib.hid (hZ.out.trans (strip_id hq2))
              clear hq2 hZ
              generalize h.drop (h.length - 3) = hd at *
              have hqp : ¬ hd = port1 := by simpa using hq
              have hqs : ((ByteArray.mk hd.toArray) == (ByteArray.mk #[58, 56, 48])) = false := by rw [show ByteArray.mk #[58, 56, 48] = ByteArray.mk port1.toArray from rfl, ba_beq]; exact decide_eq_false hqp
              have hql : (hd == ([58, 56, 48] : List UInt8)) = false := hq
              have hqq : ¬ hd = ([58, 56, 48] : List UInt8) := hqp
              clear hq hqp
              go_wp2
              go_meet
              case rel => exact ⟨by rw [HN.out], rfl⟩
          · have hleI : ¬ (3 : Int) ≤ h.length := by omega
            have hq2 : port1.isSuffixOf h = false := by
              cases hx : port1.isSuffixOf h with
              | false => rfl
              | true => exact absurd (suf_iff.1 hx).1 hle
            have HN := Lib.hid (hZ.out.trans (strip_id hq2))
            clear hq2 hZ
            go_wp2
            go_meet
            case rel => exact ⟨by rw [HN.out], rfl⟩
      case rest =>
        obtain ⟨rfl, hwc⟩ := hcut
        have hwd := hwc.symm
        clear hwc
        subst hwd
        clear hll hcf HHS
        go_upto_block 4 with (fail)
        go_cut [10] from 78 (fun vr wx => vr = .string ⟨(toHash (a.drop n)).toArray⟩ ∧ wx = w4)
        case first =>
          clear HZ HRS
          go_wp2_with fail
          go_loopw [10, 11] (fun vr vi wr => ∃ m : Nat, vi = .int .i64 m ∧ n ≤ m ∧ m ≤ a.length ∧ vr = .string ⟨((a.drop n).take (m - n)).toArray⟩ ∧ wr = w4 ∧ Hid (HsI (a.drop n) (m - n))) (fun _ vi _ => a.length - (intOf vi).toNat)
          case atStart => exact ⟨n, rfl, Nat.le_refl _, hho, by simp, rfl, Lib.hid ⟨by omega, fun c hc => by simp at hc⟩⟩
          case round =>
            obtain ⟨m, rfl, hm1, hm2, rfl, rfl, hH⟩ := hrel
            by_cases hlt : m < a.length
            · have hltI : (m : Int) < a.length := by omega
              obtain ⟨c, hc⟩ : ∃ c, a[m]? = some c := ⟨_, List.getElem?_eq_getElem hlt⟩
              have hat := byte_at a m c hc
              have hrc : (a.drop n)[m - n]? = some c := by rw [List.getElem?_drop, show n + (m - n) = m by omega]; exact hc
              by_cases he : c = 35
              · subst he
                have HE := Lib.hid (hH.out.stop hrc)
                clear hc hrc hH
                go_wp2
                go_meet
                case rel => exact ⟨by rw [HE.out], rfl⟩
              · have c1 : ((c.toNat : Int) != 35) = true := bne_iff_ne.2 (fun q => he (UInt8.toNat_inj.1 (show c.toNat = 35 by omega)))
                have HN2 := Lib.hid (hH.out.one hrc he)
                rw [show m - n + 1 = m + 1 - n by omega] at HN2
                have HS2 := Lib.hid (show (a.drop n).take (m + 1 - n) = (a.drop n).take (m - n) ++ [c] by rw [show m + 1 - n = (m - n) + 1 by omega, List.take_add_one, hrc]; rfl)
                have hcb := cut_both a m (m + 1) (by omega) (by omega)
                rw [show ((m + 1 : Nat) : Int) = (m : Int) + 1 by omega, show (a.take (m + 1)).drop m = [c] from by rw [List.take_add_one, hc, List.drop_append_of_le_length (by rw [List.length_take]; omega), List.drop_eq_nil_of_le (by rw [List.length_take]; omega)]; rfl] at hcb
                have hal : ((a.drop n).take (m - n)).length ≤ 100000 := by rw [List.length_take, List.length_drop]; omega
                generalize (a.drop n).take (m - n) = acc at *
                clear hc hrc hH he
                go_wp2
                go_roundw
                case rel => exact ⟨m + 1, by go_num, by omega, hlt, by rw [HS2.out, ← str_app], trivial, HN2⟩
                case measure => simp [intOf]; omega
            · have hltI : ¬ (m : Int) < a.length := by omega
              have HE := Lib.hid (show (a.drop n).take (m - n) = toHash (a.drop n) by
                have h2 := hH.out
                have e : m - n = (a.drop n).length := by rw [List.length_drop]; omega
                rw [e] at h2 ⊢
                rw [List.take_length]; exact h2.fin)
              clear hH
              go_wp2
              go_meet
              case rel => exact ⟨by rw [HE.out], rfl⟩
        case rest =>
          obtain ⟨rfl, hwc⟩ := hcut
          have hwd := hwc.symm
          clear hwc
          subst hwd
          have hhl := hash_len (a.drop n)
          have HT2 := Lib.hid (fun w => rtrim_any (toHash (a.drop n)) w (by omega))
          have htl2 := tr_len (toHash (a.drop n))
          have hsl : hs.length ≤ 100000 := hsl0
          have hyl : (toHash (a.drop n)).length ≤ 100000 := by omega
          generalize tr (toHash (a.drop n)) = x at *
          generalize toHash (a.drop n) = y at *
          clear hho hrl
          go_wp2_with fail
          refine (HT2.out _).mono ?_
          rintro e w5 ⟨rfl, k5⟩
          have K5 := Lib.hid (K4.out.trans k5)
          clear k5 K4 HT2
          have l3 : sch1.length ≤ 8 := by decide
          rcases x with _ | ⟨d, x⟩
          · have HX := Lib.hid (show rs = [47] by rw [HRS.out]; rfl)
            clear HRS
            go_wp2
            go_ret
            exact ⟨by rw [HZ.out, HX.out]; show Ending.returned (Value.string (⟨sch1.toArray⟩ ++ ⟨hs.toArray⟩ ++ ⟨[47].toArray⟩)) = _; rw [str_app, str_app], K5.out⟩
          · by_cases hd : d = 47
            · subst hd
              have HX := Lib.hid (show rs = 47 :: x by rw [HRS.out]; exact slashed_eq rfl)
              rw [List.length_cons] at htl2
              have hat := byte_at (47 :: x) 0 47 rfl
              have hcat : ¬ 9223372036854775807 < 7 + List.length hs + (x.length + 1) := by omega
              clear HRS
              go_wp2
              go_ret
              exact ⟨by rw [HZ.out, HX.out]; show Ending.returned (Value.string (⟨sch1.toArray⟩ ++ ⟨hs.toArray⟩ ++ ⟨(47 :: x).toArray⟩)) = _; rw [str_app, str_app], K5.out⟩
            · have HX := Lib.hid (show rs = 47 :: d :: x by rw [HRS.out]; unfold slashed; rw [if_neg (by simpa using hd)])
              have c1 : ((d.toNat : Int) != 47) = true := bne_iff_ne.2 (fun q => hd (UInt8.toNat_inj.1 (show d.toNat = 47 by omega)))
              rw [List.length_cons] at htl2
              have hat := byte_at (d :: x) 0 d rfl
              have hcat : ¬ 9223372036854775807 < 7 + List.length hs + (x.length + 1 + 1) := by omega
              have hcat1 : ¬ 9223372036854775807 < 7 + List.length hs + (1 + (x.length + 1)) := by omega
              have hcat2 : ¬ 9223372036854775807 < 1 + (x.length + 1) := by omega
              clear HRS hd
              go_wp2
              go_ret
              exact ⟨by rw [HZ.out, HX.out]; show Ending.returned (Value.string (⟨sch1.toArray⟩ ++ ⟨hs.toArray⟩ ++ (⟨[47].toArray⟩ ++ ⟨(d :: x).toArray⟩))) = _; rw [str_app, str_app, str_app]; rfl, K5.out⟩
  | false =>
    cases hb2 : begins t sch2 with
    | true =>
      have HZ := Lib.hid (show z = sch2 ++ hostS port2 (t.drop 8) ++ restS (t.drop 8) by rw [HN.out]; unfold normT; rw [hb1, if_neg (by decide), if_pos hb2]; rfl)
      have hlen := begins_len hb2
      rw [show sch2.length = 8 from rfl] at hlen
      have hcf := cut_from t (8 : Int) 8 rfl hlen
      have htk : (t.drop 8).length ≤ 100000 := by rw [List.length_drop]; omega
      clear hb1 hb2 HN hlen
      generalize t.drop 8 = a at *
      have hho : (hostOf a).length ≤ a.length := take_len _ a
      go_upto_block 0 with (fail)
      go_cut [8] from 27 (fun vi wx => vi = .int .i64 (hostOf a).length ∧ wx = w3)
      case first =>
        clear HZ
        go_wp2_with fail
        go_loopw [8] (fun vi wr => ∃ i : Nat, vi = .int .i64 i ∧ i ≤ a.length ∧ wr = w3 ∧ Hid (AnyI a i)) (fun vi _ => a.length - (intOf vi).toNat)
        case atStart => exact ⟨0, rfl, Nat.zero_le _, rfl, Lib.hid ⟨Nat.zero_le _, fun c hc => by simp at hc⟩⟩
        case round =>
          obtain ⟨i, rfl, hi, rfl, hA⟩ := hrel
          by_cases hlt : i < a.length
          · have hltI : (i : Int) < a.length := by omega
            obtain ⟨c, hc⟩ : ∃ c, a[i]? = some c := ⟨_, List.getElem?_eq_getElem hlt⟩
            have hat := byte_at a i c hc
            cases he : isEnd c with
            | false =>
              have HN2 := Lib.hid (any_one hA.out hc he)
              have c1 : ((c.toNat : Int) != 47) = true := bne_iff_ne.2 (end_ne he 47 (by decide))
              have c2 : ((c.toNat : Int) != 63) = true := bne_iff_ne.2 (end_ne he 63 (by decide))
              have c3 : ((c.toNat : Int) != 35) = true := bne_iff_ne.2 (end_ne he 35 (by decide))
              clear hc he hA
              go_wp2
              go_roundw
              case rel => exact ⟨i + 1, by go_num, hlt, trivial, HN2⟩
              case measure => simp [intOf]; omega
            | true =>
              have HE := Lib.hid (any_stop hA.out hc he)
              rcases end_one he with rfl | rfl | rfl
              · clear hc he hA
                go_wp2
                go_meet
                case rel => exact ⟨by rw [← HE.out], rfl⟩
              · clear hc he hA
                go_wp2
                go_meet
                case rel => exact ⟨by rw [← HE.out], rfl⟩
              · clear hc he hA
                go_wp2
                go_meet
                case rel => exact ⟨by rw [← HE.out], rfl⟩
          · have hltI : ¬ (i : Int) < a.length := by omega
            have HE := Lib.hid (show i = (hostOf a).length by have h2 := hA.out; rw [show i = a.length by omega] at h2 ⊢; exact (any_end h2).symm)
            go_wp2
            go_meet
            case rel => exact ⟨by rw [← HE.out], rfl⟩
      case rest =>
        obtain ⟨rfl, hwc⟩ := hcut
        have hwd := hwc.symm
        clear hwc
        subst hwd
        have hct := cut_to a (hostOf a).length hho
        rw [show a.take (hostOf a).length = hostOf a from tw_take _ a] at hct
        have HS := Lib.hid (fun w => rsmall_any (hostOf a) w (by omega))
        rw [show (hostOf a).map Lib.lowerB = lo (hostOf a) from rfl] at HS
        have hll : (lo (hostOf a)).length = (hostOf a).length := List.length_map _
        have HHS := Lib.hid (show hostS port2 a = strip port2 (lo (hostOf a)) from rfl)
        have hra : restOf a = a.drop (hostOf a).length := (tw_drop _ a).symm
        have HRS := Lib.hid (show restS a = slashed (tr (toHash (restOf a))) from rfl)
        rw [hra] at HRS
        have hrl : (a.drop (hostOf a).length).length = a.length - (hostOf a).length := List.length_drop
        clear hra
        generalize lo (hostOf a) = h0 at *
        generalize hn : (hostOf a).length = n at *
        clear hn
        generalize hostOf a = hh at *
        have hsl0 : (hostS port2 a).length ≤ 100000 := by have := hostS_len port2 a; omega
        generalize hostS port2 a = hs at *
        generalize restS a = rs at *
        go_wp2_with fail
        refine (HS.out _).mono ?_
        rintro e w4 ⟨rfl, k4⟩
        have K4 := Lib.hid (K3.out.trans k4)
        clear k4 K3 HS hct
        go_upto_block 2 with (fail)
        go_cut [9] from 55 (fun vh wx => vh = .string ⟨hs.toArray⟩ ∧ wx = w4)
        case first =>
          clear HZ HRS hcf
          go_wp2_with fail
          go_loopw [9] (fun vh wr => ∃ h : List UInt8, vh = .string ⟨h.toArray⟩ ∧ wr = w4 ∧ h.length ≤ 100000 ∧ Hid (hs = strip port2 h)) (fun vh _ => (match vh with | .string s => s.size | _ => 0))
          case atStart => exact ⟨h0, rfl, rfl, by omega, HHS⟩
          case round =>
            obtain ⟨h, rfl, rfl, hhl, hZ⟩ := hrel
            have hsz : (ByteArray.mk h.toArray).size = h.length := List.size_toArray
            by_cases hle : 4 ≤ h.length
            · have hleI : (4 : Int) ≤ h.length := by omega
              have hcd := cut_from h ((h.length : Int) - 4) (h.length - 4) (by omega) (by omega)
              cases hq : (h.drop (h.length - 4) == port2) with
              | true =>
                have hq2 : port2.isSuffixOf h = true := suf_iff.2 ⟨hle, by rw [show port2.length = 4 from rfl]; simpa using hq⟩
                have HN := Lib.hid (hZ.out.trans (strip_step (by decide) hq2))
                have hct := cut_to h (h.length - 4) (by omega)
                rw [show ((h.length - 4 : Nat) : Int) = (h.length : Int) - 4 by omega] at hct
                have htl : (h.take (h.length - 4)).length < h.length := by rw [List.length_take]; omega
                have hqe : h.drop (h.length - 4) = port2 := by simpa using hq
                rw [hqe] at hcd
                rw [show port2.length = 4 from rfl] at HN
                clear hq hq2 hqe hZ
                go_wp2
                go_roundw
                case rel => exact ⟨_, rfl, trivial, by omega, HN⟩
                case measure =>
                  show (ByteArray.mk (h.take (h.length - 4)).toArray).size < (ByteArray.mk h.toArray).size
                  rw [hsz, show (ByteArray.mk (h.take (h.length - 4)).toArray).size = (h.take (h.length - 4)).length from List.size_toArray]; exact htl
              | false =>
                have hq2 : port2.isSuffixOf h = false := by
                  cases hx : port2.isSuffixOf h with
                  | false => rfl
                  | true =>
                    have := (suf_iff.1 hx).2
                    rw [show port2.length = 4 from rfl] at this
                    rw [this] at hq
                    simp at hq
                have HN := Lib.hid (hZ.out.trans (strip_id hq2))
                clear hq2 hZ
                generalize h.drop (h.length - 4) = hd at *
                have hqp : ¬ hd = port2 := by simpa using hq
                have hqs : ((ByteArray.mk hd.toArray) == (ByteArray.mk #[58, 52, 52, 51])) = false := by rw [show ByteArray.mk #[58, 52, 52, 51] = ByteArray.mk port2.toArray from rfl, ba_beq]; exact decide_eq_false hqp
                have hql : (hd == ([58, 52, 52, 51] : List UInt8)) = false := hq
                have hqq : ¬ hd = ([58, 52, 52, 51] : List UInt8) := hqp
                clear hq hqp
                go_wp2
                go_meet
                case rel => exact ⟨by rw [HN.out], rfl⟩
            · have hleI : ¬ (4 : Int) ≤ h.length := by omega
              have hq2 : port2.isSuffixOf h = false := by
                cases hx : port2.isSuffixOf h with
                | false => rfl
                | true => exact absurd (suf_iff.1 hx).1 hle
              have HN := Lib.hid (hZ.out.trans (strip_id hq2))
              clear hq2 hZ
              go_wp2
              go_meet
              case rel => exact ⟨by rw [HN.out], rfl⟩
        case rest =>
          obtain ⟨rfl, hwc⟩ := hcut
          have hwd := hwc.symm
          clear hwc
          subst hwd
          clear hll hcf HHS
          go_upto_block 4 with (fail)
          go_cut [10] from 78 (fun vr wx => vr = .string ⟨(toHash (a.drop n)).toArray⟩ ∧ wx = w4)
          case first =>
            clear HZ HRS
            go_wp2_with fail
            go_loopw [10, 11] (fun vr vi wr => ∃ m : Nat, vi = .int .i64 m ∧ n ≤ m ∧ m ≤ a.length ∧ vr = .string ⟨((a.drop n).take (m - n)).toArray⟩ ∧ wr = w4 ∧ Hid (HsI (a.drop n) (m - n))) (fun _ vi _ => a.length - (intOf vi).toNat)
            case atStart => exact ⟨n, rfl, Nat.le_refl _, hho, by simp, rfl, Lib.hid ⟨by omega, fun c hc => by simp at hc⟩⟩
            case round =>
              obtain ⟨m, rfl, hm1, hm2, rfl, rfl, hH⟩ := hrel
              by_cases hlt : m < a.length
              · have hltI : (m : Int) < a.length := by omega
                obtain ⟨c, hc⟩ : ∃ c, a[m]? = some c := ⟨_, List.getElem?_eq_getElem hlt⟩
                have hat := byte_at a m c hc
                have hrc : (a.drop n)[m - n]? = some c := by rw [List.getElem?_drop, show n + (m - n) = m by omega]; exact hc
                by_cases he : c = 35
                · subst he
                  have HE := Lib.hid (hH.out.stop hrc)
                  clear hc hrc hH
                  go_wp2
                  go_meet
                  case rel => exact ⟨by rw [HE.out], rfl⟩
                · have c1 : ((c.toNat : Int) != 35) = true := bne_iff_ne.2 (fun q => he (UInt8.toNat_inj.1 (show c.toNat = 35 by omega)))
                  have HN2 := Lib.hid (hH.out.one hrc he)
                  rw [show m - n + 1 = m + 1 - n by omega] at HN2
                  have HS2 := Lib.hid (show (a.drop n).take (m + 1 - n) = (a.drop n).take (m - n) ++ [c] by rw [show m + 1 - n = (m - n) + 1 by omega, List.take_add_one, hrc]; rfl)
                  have hcb := cut_both a m (m + 1) (by omega) (by omega)
                  rw [show ((m + 1 : Nat) : Int) = (m : Int) + 1 by omega, show (a.take (m + 1)).drop m = [c] from by rw [List.take_add_one, hc, List.drop_append_of_le_length (by rw [List.length_take]; omega), List.drop_eq_nil_of_le (by rw [List.length_take]; omega)]; rfl] at hcb
                  have hal : ((a.drop n).take (m - n)).length ≤ 100000 := by rw [List.length_take, List.length_drop]; omega
                  generalize (a.drop n).take (m - n) = acc at *
                  clear hc hrc hH he
                  go_wp2
                  go_roundw
                  case rel => exact ⟨m + 1, by go_num, by omega, hlt, by rw [HS2.out, ← str_app], trivial, HN2⟩
                  case measure => simp [intOf]; omega
              · have hltI : ¬ (m : Int) < a.length := by omega
                have HE := Lib.hid (show (a.drop n).take (m - n) = toHash (a.drop n) by
                  have h2 := hH.out
                  have e : m - n = (a.drop n).length := by rw [List.length_drop]; omega
                  rw [e] at h2 ⊢
                  rw [List.take_length]; exact h2.fin)
                clear hH
                go_wp2
                go_meet
                case rel => exact ⟨by rw [HE.out], rfl⟩
          case rest =>
            obtain ⟨rfl, hwc⟩ := hcut
            have hwd := hwc.symm
            clear hwc
            subst hwd
            have hhl := hash_len (a.drop n)
            have HT2 := Lib.hid (fun w => rtrim_any (toHash (a.drop n)) w (by omega))
            have htl2 := tr_len (toHash (a.drop n))
            have hsl : hs.length ≤ 100000 := hsl0
            have hyl : (toHash (a.drop n)).length ≤ 100000 := by omega
            generalize tr (toHash (a.drop n)) = x at *
            generalize toHash (a.drop n) = y at *
            clear hho hrl
            go_wp2_with fail
            refine (HT2.out _).mono ?_
            rintro e w5 ⟨rfl, k5⟩
            have K5 := Lib.hid (K4.out.trans k5)
            clear k5 K4 HT2
            have l3 : sch2.length ≤ 8 := by decide
            rcases x with _ | ⟨d, x⟩
            · have HX := Lib.hid (show rs = [47] by rw [HRS.out]; rfl)
              clear HRS
              go_wp2
              go_ret
              exact ⟨by rw [HZ.out, HX.out]; show Ending.returned (Value.string (⟨sch2.toArray⟩ ++ ⟨hs.toArray⟩ ++ ⟨[47].toArray⟩)) = _; rw [str_app, str_app], K5.out⟩
            · by_cases hd : d = 47
              · subst hd
                have HX := Lib.hid (show rs = 47 :: x by rw [HRS.out]; exact slashed_eq rfl)
                rw [List.length_cons] at htl2
                have hat := byte_at (47 :: x) 0 47 rfl
                have hcat : ¬ 9223372036854775807 < 8 + List.length hs + (x.length + 1) := by omega
                clear HRS
                go_wp2
                go_ret
                exact ⟨by rw [HZ.out, HX.out]; show Ending.returned (Value.string (⟨sch2.toArray⟩ ++ ⟨hs.toArray⟩ ++ ⟨(47 :: x).toArray⟩)) = _; rw [str_app, str_app], K5.out⟩
              · have HX := Lib.hid (show rs = 47 :: d :: x by rw [HRS.out]; unfold slashed; rw [if_neg (by simpa using hd)])
                have c1 : ((d.toNat : Int) != 47) = true := bne_iff_ne.2 (fun q => hd (UInt8.toNat_inj.1 (show d.toNat = 47 by omega)))
                rw [List.length_cons] at htl2
                have hat := byte_at (d :: x) 0 d rfl
                have hcat : ¬ 9223372036854775807 < 8 + List.length hs + (x.length + 1 + 1) := by omega
                have hcat1 : ¬ 9223372036854775807 < 8 + List.length hs + (1 + (x.length + 1)) := by omega
                have hcat2 : ¬ 9223372036854775807 < 1 + (x.length + 1) := by omega
                clear HRS hd
                go_wp2
                go_ret
                exact ⟨by rw [HZ.out, HX.out]; show Ending.returned (Value.string (⟨sch2.toArray⟩ ++ ⟨hs.toArray⟩ ++ (⟨[47].toArray⟩ ++ ⟨(d :: x).toArray⟩))) = _; rw [str_app, str_app, str_app]; rfl, K5.out⟩
    | false =>
      have HZ := Lib.hid (show z = t by rw [HN.out]; unfold normT; rw [hb1, if_neg (by decide), hb2, if_neg (by decide)])
      clear hb1 hb2 HN
      go_wp2
      go_ret
      exact ⟨by rw [HZ.out]; rfl, K3.out⟩
end Go.Proofs.YtpkkpjonlogliaaDoor
