/- Package part: the chapter's example; are there few; are parts the same. -/
import Derived.Test.YtgpocnnolieijaaGreatDoorPtS
import Derived.Test.YtgpocnnolieijaaGreatDoorPtRa
set_option linter.unusedSimpArgs false
set_option linter.unusedVariables false
namespace Go.Proofs.YtgpocnnolieijaaGreatDoor.Pt
open Go.ChangeShapes Go.WideShapes Go.ChangeAt Go.RowKit Go.Shelf
open Hd (SRd OwnS)
def kT : B := [116, 101, 120, 116, 47, 112, 108, 97, 105, 110]
theorem ok_ex : okJ [kT] [[97]] = true := by decide +kernel
theorem spl_ex : spl (joined [(kT, [97])]) b0 = some [(kT, [97])] := spl_iff.2 ⟨by decide +kernel, rfl, rfl⟩
theorem ex_len : (joined [(kT, [97])]).length = 92 := by decide +kernel
theorem ex_lit : (joined [(kT, [97])] == ([45, 45, 61, 95, 48, 13, 10, 67, 111, 110, 116, 101, 110, 116, 45, 84, 121, 112, 101, 58, 32, 116, 101, 120, 116, 47, 112, 108, 97, 105, 110, 13, 10, 67, 111, 110, 116, 101, 110, 116, 45, 84, 114, 97, 110, 115, 102, 101, 114, 45, 69, 110, 99, 111, 100, 105, 110, 103, 58, 32, 113, 117, 111, 116, 101, 100, 45, 112, 114, 105, 110, 116, 97, 98, 108, 101, 13, 10, 13, 10, 97, 13, 10, 45, 45, 61, 95, 48, 45, 45, 13, 10] : B)) = true := by decide +kernel
theorem OwnB.cap {B0 : Nat} {v : Value} {l : B} {w : World} (h : OwnB B0 v l w) : ∀ a n c, v = .slice a n c → c ≤ 9223372036854775807 := by
  intro a n c hv
  rcases h.2 with ⟨e1, e2⟩ | ⟨g, cap, cur, e1, _, _, _, hm, _⟩
  · rw [hv] at e1; cases e1; omega
  · rw [hv] at e1; cases e1; unfold maxLen at hm; omega
theorem bdy_nil : bdy [] = b0 := bdy_none (by simp)
set_option maxRecDepth 100000 in
set_option maxHeartbeats 4000000 in
theorem awake15_any (w : World) (hE : Env w) : Calls Tryz.prog 8 #[] w fun e w' => e = .returned (.bool true) ∧ Kept w w' := by
  have kc := Lib.run_convert_bytes_const (P := Tryz.prog) (w.alloc (.cells #[.string ⟨#[116, 101, 120, 116, 47, 112, 108, 97, 105, 110]⟩] 9)) 26 5 #[.int .u8 97] 1 1 Tryz.underlying26 Tryz.underlying5
  rw [show (w.alloc (.cells #[.string ⟨#[116, 101, 120, 116, 47, 112, 108, 97, 105, 110]⟩] 9)).heap.size = w.heap.size + 1 by simp] at kc
  have HE := Lib.hid hE
  clear hE
  obtain ⟨w1, hw1⟩ : ∃ w1, w.alloc (.cells #[sV kT] 9) = w1 := ⟨_, rfl⟩
  obtain ⟨w2, hw2⟩ : ∃ w2, w1.alloc (.cells #[.int .u8 97] 5 (1, 2)) = w2 := ⟨_, rfl⟩
  obtain ⟨w3, hw3⟩ : ∃ w3, w2.alloc (.cells #[.slice (some ⟨w1.heap.size, 0, none⟩) 1 1] 26) = w3 := ⟨_, rfl⟩
  have k1 : Kept w w1 := hw1 ▸ (Kept.refl w).alloc _
  have k2 : Kept w1 w2 := hw2 ▸ (Kept.refl w1).alloc _
  have k3 : Kept w2 w3 := hw3 ▸ (Kept.refl w2).alloc _
  have s1 : SRd (.slice (some ⟨w.heap.size, 0, none⟩) 1 1) [kT] w1 := ⟨_, _, rfl, fun _ => ⟨_, _, rfl, Nat.le_refl _, fun i t hi => by
    cases i with
    | zero => simp at hi; subst hi; subst hw1; exact (Kept.refl _).new 0 rfl
    | succ i => simp at hi⟩⟩
  have r2 : BRd (.slice (some ⟨w1.heap.size, 0, none⟩) 1 1) [97] w2 := hw2 ▸ brd_new w1 [97] 5 #[.int .u8 97] rfl 1 (Nat.le_refl 1) (1, 2)
  have l3 : LRd (.slice (some ⟨w2.heap.size, 0, none⟩) 1 1) [[97]] w3 := ⟨_, _, rfl, fun e => (by cases e), fun _ => ⟨_, _, rfl, Nat.le_refl _, fun i t hi => by
    cases i with
    | zero => simp at hi; subst hi; subst hw3; exact ⟨_, (Kept.refl _).new 0 rfl, r2.kept k3⟩
    | succ i => simp at hi⟩⟩
  have K3 := Lib.hid (k1.trans (k2.trans k3))
  have HJ := Lib.hid (join_any _ _ [kT] [[97]] w3 (s1.kept (k2.trans k3)) l3 (HE.out.kept K3.out) (by intro k hk; simp at hk; subst hk; decide) (by intro k hk; simp at hk; subst hk; decide))
  rw [(j_yes ok_ex).1, (j_yes ok_ex).2.1, (j_yes ok_ex).2.2, show ([kT].zip ([[97]] : List B)) = [(kT, [97])] from rfl] at HJ
  have z1 : w1.heap.size = w.heap.size + 1 := by subst hw1; simp
  have z2 : w2.heap.size = w.heap.size + 2 := by subst hw2; simp [z1]
  clear s1 r2 l3 k1 k2 k3
  go_enter Tryz.func8, Tryz.ntmps8
  go_wp2_with fail
  rw [show (w.alloc (.cells #[.string ⟨#[116, 101, 120, 116, 47, 112, 108, 97, 105, 110]⟩] 9)) = w1 from hw1]
  rw [hw2, ← z1, hw3, show w1.heap.size + 1 = w2.heap.size by omega]
  refine HJ.out.mono ?_
  rintro e y1 ⟨jv, rfl, hjo, k1⟩
  have K1 := Lib.hid (K3.out.trans k1)
  have HS := Lib.hid (split_any jv (joined [(kT, [97])]) b0 y1 hjo.rd (HE.out.kept K1.out) (by rw [ex_len]; omega) (by decide) (OwnB.cap hjo))
  have HJR := Lib.hid hjo
  clear k1 K3 HJ hjo hw1 hw2 hw3 kc
  generalize w1.heap.size = b1 at *
  generalize w2.heap.size = b2 at *
  generalize w.heap.size = b0' at *
  clear z1 z2
  go_wp2_with fail
  refine HS.out.mono ?_
  rintro e y2 ⟨kv, lv, ks, ls, rfl, hks, hls, hsp, k2⟩
  obtain ⟨rfl, rfl⟩ := hsp.one (Or.inl ⟨spl_ex, rfl⟩ : Sp _ _ [kT] [[97]])
  rw [show sE (joined [(kT, [97])]) b0 = 0 by unfold sE; rw [spl_ex]; rfl]
  have K2 := Lib.hid (K1.out.trans k2)
  have hcj := (HJR.out.kept k2).rd.conv
  obtain ⟨g, o, c, xv, hv, hcc, c0, hx⟩ := hls.rd.at (i := 0) (b := [97]) rfl
  rw [Nat.add_zero] at c0
  have hcx := hx.conv
  obtain ⟨xa, xc, rfl⟩ := hx.slice
  obtain ⟨ja, jc, hjv⟩ := own_slice HJR.out
  obtain ⟨ka, kc, hkv⟩ := own_slice hks
  rw [show ([[97]] : List B).length = 1 from rfl] at hv hcc
  rw [show ([kT] : List B).length = 1 from rfl] at hkv
  rw [show ([97] : B).length = 1 from rfl] at c0 hcx
  have HBd := Lib.hid (boundary_any (.slice none 0 0) [] y2 (LRd.nil _) (HE.out.kept K2.out) (Or.inl (by decide)) (by simp [sum]) (by simp))
  rw [bdy_nil] at HBd
  have hlit := ex_lit
  have hjl := ex_len
  rw [hjl] at hjv
  clear hjl
  generalize joined [(kT, [97])] = J at *
  subst hv
  subst hjv
  subst hkv
  clear hks hls hsp hx k2 K1 HS HJR
  go_wp2_with fail
  refine HBd.out.mono ?_
  rintro e y3 ⟨rfl, k3⟩
  go_wp2
  go_ret
  exact ⟨rfl, K2.out.trans k3⟩
/-- are there few -/
def few (ks ls : List B) : Bool := (decide (ks.length ≤ 10) && decide (ls.length ≤ 10)) && (ks.all (fun k => decide (k.length ≤ 100)) && ls.all (fun d => decide (d.length ≤ 300)))
theorem few_iff {ks ls : List B} : few ks ls = true ↔ (ks.length ≤ 10 ∧ ls.length ≤ 10) ∧ (∀ k ∈ ks, k.length ≤ 100) ∧ ∀ d ∈ ls, d.length ≤ 300 := by unfold few; simp
theorem few_no {ks ls : List B} (h : ¬ few ks ls = true) : few ks ls = false := by simpa using h
set_option maxRecDepth 100000 in
set_option maxHeartbeats 4000000 in
theorem few_any (kv lv : Value) (ks ls : List B) (w : World) (hk : SRd kv ks w) (hl : LRd lv ls w) :
    Calls Tryz.prog 9 #[kv, lv] w fun e w' => e = .returned (.bool (few ks ls)) ∧ w' = w := by
  obtain ⟨ka, kc, rfl⟩ := hk.slice
  obtain ⟨la, lc, rfl⟩ := hl.slice
  have HK := Lib.hid hk
  have HL := Lib.hid hl
  have HI := Lib.hid (few_iff (ks := ks) (ls := ls))
  clear hk hl
  by_cases h1 : (10 : Int) < ks.length
  · have HZ := Lib.hid (few_no (fun h => by have := (HI.out.1 h).1; omega))
    generalize ks.length = n at *
    generalize ls.length = m at *
    go_enter Tryz.func9, Tryz.ntmps9
    go_wp2
    go_ret
    exact ⟨by rw [HZ.out]; rfl, rfl⟩
  by_cases h2 : (10 : Int) < ls.length
  · have HZ := Lib.hid (few_no (fun h => by have := (HI.out.1 h).1; omega))
    generalize ks.length = n at *
    generalize ls.length = m at *
    go_enter Tryz.func9, Tryz.ntmps9
    go_wp2
    go_ret
    exact ⟨by rw [HZ.out]; rfl, rfl⟩
  go_enter Tryz.func9, Tryz.ntmps9
  go_wp2_with fail
  go_loopw [5] (fun vi wr => ∃ i : Nat, i ≤ ks.length ∧ vi = .int .i64 i ∧ Hid (∀ j k, j < i → ks[j]? = some k → k.length ≤ 100) ∧ w = wr) (fun vi _ => ks.length - (intOf vi).toNat)
  case atStart => exact ⟨0, Nat.zero_le _, rfl, Lib.hid (fun j k h => by omega), rfl⟩
  case round =>
    obtain ⟨i, hi, rfl, hA, rfl⟩ := hrel
    by_cases hlt : i < ks.length
    · have hltI : (i : Int) < ks.length := by omega
      obtain ⟨k, hk⟩ : ∃ k, ks[i]? = some k := ⟨_, List.getElem?_eq_getElem hlt⟩
      obtain ⟨g, o, c, hv, hc, c0⟩ := HK.out.at hk
      cases hv
      have hks : (ByteArray.mk k.toArray).size = k.length := List.size_toArray
      have HX := Lib.hid hk
      clear hk
      by_cases h3 : (100 : Int) < k.length
      · have HZ := Lib.hid (few_no (fun h => by have := (HI.out.1 h).2.1 k (List.mem_of_getElem? HX.out); omega))
        go_wp2
        go_ret
        exact ⟨by rw [HZ.out]; rfl, by first | rfl | trivial⟩
      · have HA2 := Lib.hid (show ∀ j k, j < i + 1 → ks[j]? = some k → k.length ≤ 100 from fun j k' hj hk' => by
          by_cases e : j = i
          · subst e; rw [HX.out] at hk'; cases hk'; omega
          · exact hA.out j k' (by omega) hk')
        go_wp2
        go_roundw
        case rel => exact ⟨i + 1, hlt, by go_num, HA2, by first | rfl | exact trivial⟩
        case measure => simp [intOf]; omega
    · obtain rfl : i = ks.length := by omega
      have hltI : ¬ (ks.length : Int) < ks.length := by omega
      have HA1 := Lib.hid (show ∀ k ∈ ks, k.length ≤ 100 from fun k hk => by
        obtain ⟨j, hj, rfl⟩ := List.mem_iff_getElem.1 hk
        exact hA.out j _ hj (List.getElem?_eq_getElem hj))
      clear hA
      go_wp2_with fail
      go_loopw [6] (fun vi wr => ∃ i : Nat, i ≤ ls.length ∧ vi = .int .i64 i ∧ Hid (∀ j k, j < i → ls[j]? = some k → k.length ≤ 300) ∧ w = wr) (fun vi _ => ls.length - (intOf vi).toNat)
      case atStart => exact ⟨0, Nat.zero_le _, rfl, Lib.hid (fun j k h => by omega), rfl⟩
      case round =>
        obtain ⟨i, hi, rfl, hA, rfl⟩ := hrel
        by_cases hlt : i < ls.length
        · have hltI : (i : Int) < ls.length := by omega
          obtain ⟨k, hk⟩ : ∃ k, ls[i]? = some k := ⟨_, List.getElem?_eq_getElem hlt⟩
          obtain ⟨g, o, c, x, hv, hc, c0, hx⟩ := HL.out.at hk
          cases hv
          obtain ⟨xa, xc, rfl⟩ := hx.slice
          have HX := Lib.hid hk
          clear hk hx
          by_cases h3 : (300 : Int) < k.length
          · have HZ := Lib.hid (few_no (fun h => by have := (HI.out.1 h).2.2 k (List.mem_of_getElem? HX.out); omega))
            go_wp2
            go_ret
            exact ⟨by rw [HZ.out]; rfl, by first | rfl | trivial⟩
          · have HA2 := Lib.hid (show ∀ j k, j < i + 1 → ls[j]? = some k → k.length ≤ 300 from fun j k' hj hk' => by
              by_cases e : j = i
              · subst e; rw [HX.out] at hk'; cases hk'; omega
              · exact hA.out j k' (by omega) hk')
            go_wp2
            go_roundw
            case rel => exact ⟨i + 1, hlt, by go_num, HA2, by first | rfl | exact trivial⟩
            case measure => simp [intOf]; omega
        · obtain rfl : i = ls.length := by omega
          have hltI : ¬ (ls.length : Int) < ls.length := by omega
          have HZ := Lib.hid (HI.out.2 ⟨by omega, HA1.out, fun k hk => by
            obtain ⟨j, hj, rfl⟩ := List.mem_iff_getElem.1 hk
            exact hA.out j _ hj (List.getElem?_eq_getElem hj)⟩)
          go_wp2
          go_ret
          exact ⟨by rw [HZ.out]; rfl, by first | rfl | trivial⟩
end Go.Proofs.YtgpocnnolieijaaGreatDoor.Pt
