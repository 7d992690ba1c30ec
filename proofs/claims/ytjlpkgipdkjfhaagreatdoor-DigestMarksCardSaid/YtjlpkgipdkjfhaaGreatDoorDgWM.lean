import Derived.Test.YtjlpkgipdkjfhaaGreatDoorDc
import Derived.Test.YtjlpkgipdkjfhaaGreatDoorDgFw
import Derived.Test.YtjlpkgipdkjfhaaGreatDoorEnRefA
set_option linter.unusedSimpArgs false
set_option linter.unusedVariables false
namespace Go.Proofs.YtjlpkgipdkjfhaaGreatDoor.Bk.Dg
open Go.ChangeShapes Go.WideShapes Go.ChangeAt Go.RowKit Go.Shelf
open Go.Proofs.YtjlpkgipdkjfhaaGreatDoor.Dg
open En (enc)
theorem count60_next {s : B} {i : Nat} {c : UInt8} (h : s[i]? = some c) : (s.take (i + 1)).count 60 = (s.take i).count 60 + (if c = 60 then 1 else 0) := by
  rw [List.take_add_one, h, List.count_append]
  by_cases hc : c = 60
  · subst hc; rfl
  · rw [if_neg hc]; simp [hc]
theorem long_part {l : List It} {i : Nat} (h : i ≤ l.length) : long (l.take i) ≤ long l := by
  have h1 := lis_long (l.take i)
  have h2 := lis_long l
  have h3 := flat_part li l i
  omega
set_option maxRecDepth 100000 in
set_option maxHeartbeats 8000000 in
theorem marks16_walk (v : Value) (l : List It) (w : World) (hE : EX w) (hA : ItA v l w) : Calls Tryz.prog 8 #[v] w fun e w' => e = .returned (.bool true) ∧ Kept w w' := by
  have HE := Lib.hid hE
  have HW := Lib.hid (awake16_any w hE)
  have HR := Lib.hid hA.rd
  have HF := Lib.hid (fun w hR => few_any v l 12 w hR (by omega) hA.n hA.b)
  obtain ⟨va, vc, rfl⟩ := hA.rd.slice
  clear hE
  cases hf : fwB l 12 with
  | false =>
    rw [hf] at HF
    clear hf hA
    go_enter Tryz.func8, Tryz.ntmps8
    go_wp2_with fail
    refine HW.out.mono ?_
    rintro e y ⟨rfl, k⟩
    go_wp2_with fail
    refine (HF.out _ (HR.out.kept k)).mono ?_
    rintro e y2 ⟨rfl, k2⟩
    have K := Lib.hid (k.trans k2)
    clear k k2
    go_wp2
    go_ret
    exact ⟨rfl, K.out⟩
  | true =>
    have hFw := fwB_iff.1 hf
    rw [hf] at HF
    have hS := hFw.sm (by omega)
    have HH := Lib.hid (fun w hR hE => html_any (.slice va l.length vc) l w hR hE hS)
    have hln := hFw.1
    have HX := Lib.hid hFw.2
    have h60 := htm_60 l
    have hlo := htm_long l
    have hht : (htm l).length ≤ 1000000 := by have := hFw.htm; omega
    generalize htm l = s at *
    have hsz : (ByteArray.mk s.toArray).size = s.length := List.size_toArray
    have H60 := Lib.hid h60
    have HLO := Lib.hid hlo
    clear hf hA hFw hS h60 hlo
    go_enter Tryz.func8, Tryz.ntmps8
    go_wp2_with fail
    refine HW.out.mono ?_
    rintro e y ⟨rfl, k⟩
    go_wp2_with fail
    refine (HF.out _ (HR.out.kept k)).mono ?_
    rintro e y2 ⟨rfl, k2⟩
    have K2 := Lib.hid (k.trans k2)
    clear k k2
    go_wp2_with fail
    refine (HH.out _ (HR.out.kept K2.out) (HE.out.kept K2.out).p).mono ?_
    rintro e y3 ⟨rfl, k3⟩
    have K3 := Lib.hid (K2.out.trans k3)
    clear k3
    go_wp2_with fail
    go_loopw [6, 7] (fun vm vi wr => ∃ i m : Nat, i ≤ s.length ∧ m ≤ i ∧ vi = .int .i64 i ∧ vm = .int .i64 m ∧ wr = y3 ∧ Hid (m = (s.take i).count 60)) (fun _ vi _ => s.length - (intOf vi).toNat)
    case atStart => exact ⟨0, 0, Nat.zero_le _, Nat.zero_le _, rfl, rfl, rfl, Lib.hid rfl⟩
    case round =>
      obtain ⟨i, m, hi, hmi, rfl, rfl, rfl, hM⟩ := hrel
      by_cases hlt : i < s.length
      · have hltI : (i : Int) < s.length := by omega
        obtain ⟨c, hc⟩ : ∃ c, s[i]? = some c := ⟨_, List.getElem?_eq_getElem hlt⟩
        have hat := byte_at s i c hc
        have HC := Lib.hid (count60_next hc)
        clear hc
        by_cases h6 : (c.toNat : Int) = 60
        · have hce : c = 60 := UInt8.toNat_inj.1 (show c.toNat = 60 by omega)
          clear h6
          subst hce
          have HM2 := Lib.hid (show m + 1 = (s.take (i + 1)).count 60 by rw [HC.out, hM.out, if_pos rfl])
          clear HC hM
          go_wp2
          go_roundw
          case rel => exact ⟨i + 1, m + 1, hlt, by omega, by go_num, by go_num, by first | rfl | trivial, HM2⟩
          case measure => simp [intOf]; omega
        · have hne : c ≠ 60 := fun e => h6 (by rw [e]; rfl)
          have h6' : ((c.toNat : Int) == 60) = false := beq_eq_false_iff_ne.2 h6
          have HM2 := Lib.hid (show m = (s.take (i + 1)).count 60 by rw [HC.out, hM.out, if_neg hne]; rfl)
          clear HC hM hne
          go_wp2
          go_roundw
          case rel => exact ⟨i + 1, m, hlt, by omega, by go_num, by go_num, by first | rfl | trivial, HM2⟩
          case measure => simp [intOf]; omega
      · have hltI : ¬ (i : Int) < s.length := by omega
        obtain rfl : i = s.length := by omega
        rw [List.take_length] at hM
        have HM := Lib.hid (show m = 2 + 4 * l.length by rw [hM.out, H60.out])
        clear hM
        go_wp2_with fail
        go_loopw [8, 9, 10] (fun vg vj _ x => ∃ j g : Nat, j ≤ l.length ∧ g ≤ 1000000 ∧ vj = .int .i64 j ∧ vg = .int .i64 g ∧ Hid (Kept w x) ∧ Hid (g = 11 + long (l.take j))) (fun _ vj _ _ => l.length - (intOf vj).toNat)
        case atStart => exact ⟨0, 11, Nat.zero_le _, by omega, rfl, rfl, K3, Lib.hid rfl⟩
        case round =>
          obtain ⟨j, g, hj, hg, rfl, rfl, hK, hG⟩ := hrel
          by_cases hjt : j < l.length
          · have hjtI : (j : Int) < l.length := by omega
            obtain ⟨x, hx⟩ : ∃ x, l[j]? = some x := ⟨_, List.getElem?_eq_getElem hjt⟩
            obtain ⟨-, g', o, rfl, hc, p0, p1, p2, p3, p4, p5, p6⟩ := (HR.out.kept hK.out).at hx
            obtain ⟨f0, f1, f2, f3⟩ := HX.out x (List.mem_of_getElem? hx)
            have hgn : g + (25 + (enc x.link).length + (enc (tl x.title)).length) = 11 + long (l.take (j + 1)) := by rw [long_take hx, hG.out]; omega
            have hgb := long_part (l := l) (i := j + 1) (by omega)
            have hgle : g + (25 + (enc x.link).length + (enc (tl x.title)).length) ≤ 1000000 := by have := HLO.out; omega
            have HGN := Lib.hid hgn
            have HTL := Lib.hid (show tl x.title = if x.title = [] then unT else x.title from rfl)
            have htl := tl_len x.title
            have E2 := Lib.hid (fun w => rencode_any x.link w (by omega))
            have E1 := Lib.hid (fun w => rencode_any (tl x.title) w (by omega))
            obtain ⟨a5, a6, a0, a1, a2, a3, a4⟩ := x
            simp only at p0 p1 p2 p3 p4 p5 p6 hgle HGN HTL htl E1 E2 f0 f1 f2 f3
            have hs2 : (ByteArray.mk (enc a2).toArray).size = (enc a2).length := List.size_toArray
            have hs1 : (ByteArray.mk (enc (tl a1)).toArray).size = (enc (tl a1)).length := List.size_toArray
            generalize enc a2 = x2 at *
            generalize enc (tl a1) = x1 at *
            clear hgn hgb hG hx f0 f1 f2 f3 htl
            cases hem : a1.isEmpty with
            | true =>
              rw [show tl a1 = unT by rw [HTL.out, if_pos (by simpa using hem)]] at E1
              clear HTL
              have kk := hK.out
              go_wp2_with fail
              refine (E2.out _).mono ?_
              rintro e z1 ⟨rfl, k1⟩
              have K4 := Lib.hid (kk.trans k1)
              clear k1 kk p0 p1 p2 p3 p4 p5 p6 hK
              go_wp2_with fail
              refine (E1.out _).mono ?_
              rintro e z2 ⟨rfl, k2⟩
              have K5 := Lib.hid (K4.out.trans k2)
              clear k2
              go_wp2
              go_roundw
              case rel => exact ⟨j + 1, g + (25 + x2.length + x1.length), hjt, hgle, by go_num, by go_num, K5, HGN⟩
              case measure => simp [intOf]; omega
            | false =>
              rw [show tl a1 = a1 by rw [HTL.out, if_neg (by intro e; rw [e] at hem; cases hem)]] at E1
              clear HTL
              have kk := hK.out
              go_wp2_with fail
              refine (E2.out _).mono ?_
              rintro e z1 ⟨rfl, k1⟩
              have K4 := Lib.hid (kk.trans k1)
              clear k1 kk p0 p1 p2 p3 p4 p5 p6 hK
              go_wp2_with fail
              refine (E1.out _).mono ?_
              rintro e z2 ⟨rfl, k2⟩
              have K5 := Lib.hid (K4.out.trans k2)
              clear k2
              go_wp2
              go_roundw
              case rel => exact ⟨j + 1, g + (25 + x2.length + x1.length), hjt, hgle, by go_num, by go_num, K5, HGN⟩
              case measure => simp [intOf]; omega
          · have hjtI : ¬ (j : Int) < l.length := by omega
            obtain rfl : j = l.length := by omega
            rw [List.take_length] at hG
            have HGL := Lib.hid (show g = s.length by rw [hG.out, HLO.out])
            clear hG
            have hgl := HGL.out
            have hml := HM.out
            subst hgl
            subst hml
            go_wp2
            go_ret
            exact ⟨eb_ret (by simp), hK.out⟩
end Go.Proofs.YtjlpkgipdkjfhaaGreatDoor.Bk.Dg
