import Derived.Test.YtjlpkgipdkjfhaaGreatDoorDa
set_option linter.unusedSimpArgs false
set_option linter.unusedVariables false
namespace Go.Proofs.YtjlpkgipdkjfhaaGreatDoor.Dg
open Go.ChangeShapes Go.WideShapes Go.ChangeAt Go.RowKit
open En
open Pl
def okE (x : It) : Bool := (decide (x.id.length ≤ 300) && decide (x.title.length ≤ 300)) && (decide (x.link.length ≤ 300) && decide (x.text.length ≤ 300))
def fwB (l : List It) (n : Nat) : Bool := decide (l.length ≤ n) && l.all okE
theorem okE_iff {x : It} : okE x = true ↔ x.id.length ≤ 300 ∧ x.title.length ≤ 300 ∧ x.link.length ≤ 300 ∧ x.text.length ≤ 300 := by
  unfold okE
  simp only [Bool.and_eq_true, decide_eq_true_eq, and_assoc]
theorem fwB_iff {l : List It} {n : Nat} : fwB l n = true ↔ Fw l n := by
  unfold fwB Fw
  rw [Bool.and_eq_true, decide_eq_true_eq, List.all_eq_true]
  exact and_congr Iff.rfl ⟨fun h x hx => okE_iff.1 (h x hx), fun h x hx => okE_iff.2 (h x hx)⟩
theorem fwB_long {l : List It} {n : Nat} (h : n < l.length) : fwB l n = false := by
  unfold fwB; rw [decide_eq_false (by omega), Bool.false_and]
theorem all_bad {l : List It} {i : Nat} {x : It} (hx : l[i]? = some x) (h : okE x = false) : l.all okE = false := by
  rw [List.all_eq_false]
  exact ⟨x, List.mem_of_getElem? hx, by rw [h]; decide⟩
set_option maxRecDepth 100000 in
set_option maxHeartbeats 4000000 in
theorem few_any (v : Value) (l : List It) (n : Nat) (w : World) (hR : ItRd v l w) (hn : n ≤ 1000000) (hl : l.length ≤ 9223372036854775807) (hb : ∀ x ∈ l, x.id.length ≤ 9223372036854775807 ∧ x.title.length ≤ 9223372036854775807 ∧ x.link.length ≤ 9223372036854775807 ∧ x.text.length ≤ 9223372036854775807) :
    Calls Tryz.prog 10 #[v, iV n] w fun e w' => e = .returned (.bool (fwB l n)) ∧ Kept w w' := by
  obtain ⟨va, vc, rfl⟩ := hR.slice
  have HR := Lib.hid hR
  have HB := Lib.hid hb
  clear hR hb
  by_cases hlong : (n : Int) < l.length
  · have HZ := Lib.hid (fwB_long (l := l) (n := n) (by omega))
    go_enter Tryz.func10, Tryz.ntmps10
    go_wp2
    go_ret
    exact ⟨by rw [HZ.out]; rfl, Kept.refl _⟩
  · have HF := Lib.hid (show fwB l n = l.all okE by unfold fwB; rw [decide_eq_true (by omega), Bool.true_and])
    go_enter Tryz.func10, Tryz.ntmps10
    go_wp2_with fail
    go_loopw [5, 6] (fun vi _ wr => ∃ i : Nat, i ≤ l.length ∧ vi = .int .i64 i ∧ Hid (Kept w wr) ∧ Hid (∀ (j : Nat) x, j < i → l[j]? = some x → okE x = true)) (fun vi _ _ => l.length - (intOf vi).toNat)
    case atStart => exact ⟨0, Nat.zero_le _, rfl, Lib.hid (Kept.refl _), Lib.hid (fun j x h => absurd h (Nat.not_lt_zero _))⟩
    case round =>
      obtain ⟨i, hi, rfl, hK, hA⟩ := hrel
      by_cases hlt : i < l.length
      · have hltI : (i : Int) < l.length := by omega
        obtain ⟨x, hx⟩ : ∃ x, l[i]? = some x := ⟨_, List.getElem?_eq_getElem hlt⟩
        obtain ⟨-, g, o, rfl, hc, p0, p1, p2, p3, p4, p5, p6⟩ := (HR.out.kept hK.out).at hx
        obtain ⟨f0, f1, f2, f3⟩ := HB.out x (List.mem_of_getElem? hx)
        have D0 := Lib.hid (Eb.new wr x)
        have K1 := Lib.hid (hK.out.trans ((Kept.refl wr).alloc (.cells (e5 x) 48)))
        have HG := Lib.hid (fun (h : okE x = true) (j : Nat) y (hj : j < i + 1) (hy : l[j]? = some y) => show okE y = true by
          by_cases e : j = i
          · subst e; rw [hx] at hy; cases hy; exact h
          · exact hA.out j y (by omega) hy)
        have HN := Lib.hid (fun (h : okE x = false) => show fwB l n = false by rw [HF.out]; exact all_bad hx h)
        have HO := Lib.hid (okE_iff (x := x))
        generalize okE x = ok at *
        obtain ⟨a5, a6, a0, a1, a2, a3, a4⟩ := x
        simp only at p0 p1 p2 p3 p4 p5 p6 f0 f1 f2 f3 HO
        clear hx hA hK
        go_upto_region 7 with (fail)
        rw [show wr.alloc (.cells #[sV a0, sV a1, sV a2, sV a3, iV a4] 48) = wr.alloc (.cells (e5 ⟨a5, a6, a0, a1, a2, a3, a4⟩) 48) from rfl]
        generalize wr.heap.size = d at *
        generalize wr.alloc (.cells (e5 ⟨a5, a6, a0, a1, a2, a3, a4⟩) 48) = x0 at *
        have c0 := Eb.c0 D0.out
        have c1 := Eb.c1 D0.out
        have c2 := Eb.c2 D0.out
        have c3 := Eb.c3 D0.out
        simp only at c0 c1 c2 c3
        have hs0 : (ByteArray.mk a0.toArray).size = a0.length := List.size_toArray
        have hs1 : (ByteArray.mk a1.toArray).size = a1.length := List.size_toArray
        have hs2 : (ByteArray.mk a2.toArray).size = a2.length := List.size_toArray
        have hs3 : (ByteArray.mk a3.toArray).size = a3.length := List.size_toArray
        clear p0 p1 p2 p3 p4 p5 p6
        have bad : ¬ (a0.length ≤ 300 ∧ a1.length ≤ 300 ∧ a2.length ≤ 300 ∧ a3.length ≤ 300) → fwB l n = false := fun h => HN.out (by
          cases ho : ok with
          | false => rfl
          | true => exact absurd (HO.out.1 ho) h)
        have BAD := Lib.hid bad
        clear bad HN
        by_cases g0 : (300 : Int) < a0.length
        · have HZ := Lib.hid (BAD.out (by omega))
          go_wp2
          go_ret
          exact ⟨by rw [HZ.out]; rfl, K1.out⟩
        · by_cases g1 : (300 : Int) < a1.length
          · have HZ := Lib.hid (BAD.out (by omega))
            go_wp2
            go_ret
            exact ⟨by rw [HZ.out]; rfl, K1.out⟩
          · by_cases g2 : (300 : Int) < a2.length
            · have HZ := Lib.hid (BAD.out (by omega))
              go_wp2
              go_ret
              exact ⟨by rw [HZ.out]; rfl, K1.out⟩
            · by_cases g3 : (300 : Int) < a3.length
              · have HZ := Lib.hid (BAD.out (by omega))
                go_wp2
                go_ret
                exact ⟨by rw [HZ.out]; rfl, K1.out⟩
              · have HA2 := Lib.hid (HG.out (HO.out.2 (by omega)))
                clear HG HO BAD
                go_wp2
                go_roundw
                case rel => exact ⟨i + 1, hlt, by go_num, K1, HA2⟩
                case measure => simp [intOf]; omega
      · have hltI : ¬ (i : Int) < l.length := by omega
        have HZ := Lib.hid (show fwB l n = true by
          rw [HF.out, List.all_eq_true]
          intro x hx
          obtain ⟨j, hj⟩ := List.getElem?_of_mem hx
          exact hA.out j x (by have := (List.getElem?_eq_some_iff.1 hj).1; omega) hj)
        clear hA
        go_wp2
        go_ret
        exact ⟨by rw [HZ.out]; rfl, hK.out⟩
end Go.Proofs.YtjlpkgipdkjfhaaGreatDoor.Dg
