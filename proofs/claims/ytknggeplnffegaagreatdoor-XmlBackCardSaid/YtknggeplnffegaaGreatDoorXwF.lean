/- Few, the law's helper. -/
import Derived.Test.YtknggeplnffegaaGreatDoorXmV
import Derived.Test.YtknggeplnffegaaGreatDoorXmX
set_option linter.unusedVariables false
namespace Go.Proofs.YtknggeplnffegaaGreatDoor
open Go.ChangeShapes Go.WideShapes Go.ChangeAt Go.RowKit
open En Xm
def FwA (al : List Atr) : Prop := ∀ a ∈ al, a.1.length ≤ 200 ∧ a.2.length ≤ 200
def FwK (t : Tk) : Prop := t.2.1.length ≤ 200 ∧ t.2.2.1.length ≤ 200 ∧ t.2.2.2.length ≤ 200 ∧ FwA t.2.2.2
theorem mem_take_succ {α : Type} {P : α → Prop} {l : List α} {i : Nat} {u : α} (h : ∀ t ∈ l.take i, P t) (hu : l[i]? = some u) (hp : P u) : ∀ t ∈ l.take (i + 1), P t := by
  intro t ht
  rw [List.take_add_one, hu, List.mem_append] at ht
  rcases ht with ht | ht
  · exact h t ht
  · simp at ht; subst ht; exact hp
def FwP (l : List Tk) (w : World) (e : Ending) (w' : World) : Prop := ∃ b : Bool, e = .returned (.bool b) ∧ Kept w w' ∧ (b = true → Fw 200 l)
theorem FwP.no {l : List Tk} {w w' : World} (k : Kept w w') : FwP l w (.returned (.bool false)) w' := ⟨false, rfl, k, fun h => by cases h⟩
set_option maxRecDepth 100000 in
set_option maxHeartbeats 8000000 in
theorem few_any (v : Value) (l : List Tk) (w : World) (h : TkRd v l w) (hl : l.length ≤ maxLen) : Calls Tryz.prog 13 #[v, .int .i64 40] w (FwP l w) := by
  unfold maxLen at hl
  obtain ⟨a, c, hv⟩ := h.slice
  subst hv
  go_enter Tryz.func13, Tryz.ntmps13
  by_cases h40 : 40 < (l.length : Int)
  · have Z := Lib.hid (show FwP l w (.returned (.bool false)) w from FwP.no (Kept.refl w))
    clear h
    go_wp2
    go_ret
    exact Z.out
  go_wp2_with fail
  go_loopw [5] (fun vi wr => ∃ i : Nat, i ≤ l.length ∧ vi = .int .i64 i ∧ Hid (Kept w wr) ∧ Hid (TkRd (.slice a l.length c) l wr) ∧ Hid (∀ t ∈ l.take i, FwK t)) (fun vi _ => l.length - (intOf vi).toNat)
  case atStart => exact ⟨0, Nat.zero_le _, rfl, Lib.hid (Kept.refl w), Lib.hid h, Lib.hid (fun t ht => by simp at ht)⟩
  case round =>
    obtain ⟨i, hi, rfl, hK, hA, hT⟩ := hrel
    clear h
    by_cases hlt : i < l.length
    · have hltI : (i : Int) < l.length := by omega
      obtain ⟨t, ht⟩ : ∃ t, l[i]? = some t := ⟨_, List.getElem?_eq_getElem hlt⟩
      obtain ⟨-, g, o, x, ha, hc, d0, d1, d2, d3, hx⟩ := hA.out.at ht
      obtain ⟨pa, ca, hxs⟩ := hx.slice
      subst ha hxs
      have HTT := Lib.hid (fun q => mem_take_succ hT.out ht q)
      clear ht hT
      obtain ⟨k1, n1, s1, al1⟩ := t
      simp only at d0 d1 d2 d3 hx
      have Z := Lib.hid (show ∀ y, Kept wr y → FwP l w (.returned (.bool false)) y from fun y ky => FwP.no (hK.out.trans ky))
      by_cases hn : 200 < (n1.length : Int)
      · clear hK hA hx
        go_wp2
        go_ret
        exact Z.out _ (Kept.refl _)
      by_cases hs : 200 < (s1.length : Int)
      · clear hK hA hx
        go_wp2
        go_ret
        exact Z.out _ (Kept.refl _)
      by_cases hal : 10 < (al1.length : Int)
      · clear hK hA hx
        go_wp2
        go_ret
        exact Z.out _ (Kept.refl _)
      clear Z
      have X1 := Lib.hid hx
      have D3 := Lib.hid d3
      clear hx
      have K2' := hK
      clear hK
      generalize wr = W1 at *
      go_wp2_with fail
      go_loopw [6] (fun vj y => ∃ j : Nat, j ≤ al1.length ∧ vj = .int .i64 j ∧ Hid (Kept w y) ∧ Hid (Kept W1 y) ∧ Hid (FwA (al1.take j))) (fun vj _ => al1.length - (intOf vj).toNat)
      case atStart => exact ⟨0, Nat.zero_le _, rfl, K2', Lib.hid (Kept.refl _), Lib.hid (fun t ht => by simp at ht)⟩
      case round =>
        obtain ⟨j, hj, rfl, hK2, hKq, hTj⟩ := hrel
        have d3 := hKq.out.yes D3.out
        by_cases hjl : j < al1.length
        · have hjI : (j : Int) < al1.length := by omega
          obtain ⟨u, hu⟩ : ∃ u, al1[j]? = some u := ⟨_, List.getElem?_eq_getElem hjl⟩
          obtain ⟨-, ga, oa, hpa, hca, f0, f1⟩ := (X1.out.kept hKq.out).at hu
          subst hpa
          have HU := Lib.hid (fun q => mem_take_succ hTj.out hu q)
          have Z := Lib.hid (show ∀ z, Kept wr z → FwP l w (.returned (.bool false)) z from fun z ky => FwP.no (hK2.out.trans ky))
          clear hu hTj
          by_cases b1 : 200 < (u.1.length : Int)
          · clear hK2 hA HU
            go_wp2
            go_ret
            exact Z.out _ (Kept.refl _)
          by_cases b2 : 200 < (u.2.length : Int)
          · clear hK2 hA HU
            go_wp2
            go_ret
            exact Z.out _ (Kept.refl _)
          have HN := Lib.hid (HU.out ⟨by omega, by omega⟩)
          clear Z HU
          go_wp2
          go_roundw
          case rel => exact ⟨j + 1, hjl, by go_num, hK2, hKq, HN⟩
          case measure => simp [intOf]; omega
        · have hjI : ¬ (j : Int) < al1.length := by omega
          have HN := Lib.hid (HTT.out (show FwK (k1, n1, s1, al1) from ⟨by show n1.length ≤ 200; omega, by show s1.length ≤ 200; omega, by show al1.length ≤ 200; omega, by
            have := hTj.out
            rwa [List.take_of_length_le (by omega)] at this⟩))
          have hA2 := Lib.hid (hA.out.kept hKq.out)
          clear hTj HTT hA
          go_wp2
          go_roundw
          case rel => exact ⟨i + 1, hlt, by go_num, hK2, hA2, HN⟩
          case measure => simp [intOf]; omega
    · have hltI : ¬ (i : Int) < l.length := by omega
      have Z := Lib.hid (show FwP l w (.returned (.bool true)) wr from ⟨true, rfl, hK.out, fun _ => ⟨by omega, fun t ht => by
        have := hT.out
        rw [List.take_of_length_le (by omega)] at this
        obtain ⟨p1, p2, p3, p4⟩ := this t ht
        exact ⟨p1, p2, p3, p4⟩⟩⟩)
      clear hA hT hK
      go_wp2
      go_ret
      exact Z.out
end Go.Proofs.YtknggeplnffegaaGreatDoor
