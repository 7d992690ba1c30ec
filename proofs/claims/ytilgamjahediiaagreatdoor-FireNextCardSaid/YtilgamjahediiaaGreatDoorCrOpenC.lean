/- An argument that is a schedule: what it reads as; that it reads so behind the call. -/
import Derived.Test.YtilgamjahediiaaGreatDoorCrD
import Derived.Carry
import Derived.ChangeSlices
import Derived.OpenShut
set_option linter.unusedVariables false
namespace Go.Proofs.YtilgamjahediiaaGreatDoor
open Go.ChangeShapes Go.WideShapes Go.ChangeAt Go.RowKit
open Crn
variable {H : Type} {enc : TypeId × Value → H} {w : World} {base : Nat} {spare : Nat → Bool} {held : Bool}
theorem cellsA3 : Tryz.prog.cellsOf 3 = 1 := by kernel_rfl
theorem cellsA4 : Tryz.prog.cellsOf 4 = 1 := by kernel_rfl
theorem cellsA23 : Tryz.prog.cellsOf 26 = 1 := by kernel_rfl
theorem cellsA24 : Tryz.prog.cellsOf 27 = 5 := by kernel_rfl
theorem cellsA25 : Tryz.prog.cellsOf 28 = 5 := by kernel_rfl
theorem cellsA27 : Tryz.prog.cellsOf 30 = 10 := by kernel_rfl
theorem lt_of_cell {x : World} {a : Addr} {v : Value} (h : x.cell? a = some v) : a.block < x.heap.size := by
  unfold World.cell? at h
  split at h
  · rename_i c e1 e2 hb; exact (Array.getElem?_eq_some_iff.1 hb).1
  · cases h
theorem open_rs {n : Nat} {c : Value} {x : DataW H × List MemPlace} (h : DataW.trod enc Tryz.prog w base spare held n 26 [c] = some x) : ∃ l, Rs w c l := by
  rcases open_ints Tryz.underlying26 Tryz.underlying3 cellsA3 h with ⟨hc, _⟩ | ⟨a, len, cap, zs, hc, hb, hl, hm, hlen, hx, hcell, hwf⟩
  · exact ⟨[], Or.inl ⟨rfl, none, 0, by simpa using hc⟩⟩
  · obtain rfl : c = .slice (some a) len cap := by simpa using hc
    by_cases h0 : len = 0
    · subst h0; exact ⟨[], Or.inl ⟨rfl, _, _, rfl⟩⟩
    · have hz : len ≤ zs.length := by rw [hlen]; split <;> omega
      have hlt := hcell 0 (by omega)
      obtain ⟨b, o, sp⟩ := a
      have hspot : sp = none := by simpa [Addr.add] using World.cell?_spot hlt
      subst hspot
      have hl0 := lt_of_cell hlt
      refine ⟨zs.take len, Or.inr ⟨?_, b, o, cap, ?_, by simpa [Addr.add] using hl0, ?_, fun j n hj => ?_⟩⟩
      · intro e
        have := congrArg List.length e
        rw [List.length_take, Nat.min_eq_left hz] at this
        exact h0 this
      · rw [List.length_take, Nat.min_eq_left hz]
      · rw [List.length_take, Nat.min_eq_left hz]; omega
      · have hj1 : j < len := by
          have := (List.getElem?_eq_some_iff.1 hj).1
          rw [List.length_take] at this; omega
        have hj2 : zs[j]? = some n := by rw [List.getElem?_take] at hj; simpa [hj1] using hj
        have := hcell j (by omega)
        have ha : ((⟨b, o, none⟩ : Addr).add j) = ⟨b, o + j, none⟩ := by unfold Addr.add; split <;> simp_all
        rw [ha] at this
        rw [this, List.getD_eq_getElem?_getD, hj2]; rfl
theorem klist5 {α : Type} {l : List α} (h : l.length = 5) : ∃ a b c d e, l = [a, b, c, d, e] := by
  match l, h with
  | [a, b, c, d, e], _ => exact ⟨a, b, c, d, e, rfl⟩
theorem list10 {α : Type} {l : List α} (h : l.length = 10) : ∃ a b c d e f g i j k, l = [a, b, c, d, e, f, g, i, j, k] := by
  match l, h with
  | [a, b, c, d, e, f, g, i, j, k], _ => exact ⟨a, b, c, d, e, f, g, i, j, k, rfl⟩
def pick5 {α : Type} (a b c d e : α) : Nat → α
  | 0 => a | 1 => b | 2 => c | 3 => d | _ => e
set_option maxRecDepth 100000 in
theorem open_cron {r : Reach} {b0 : Nat} {v : Value} {d : DataW H} {p : List MemPlace}
    (hval : Value.okWide Tryz.prog w r b0 30 v) (h : DataW.Trod enc Tryz.prog w base spare held 30 v d p) :
    ∃ (sl : Nat → Value) (c : CR), v = crV sl c.st ∧ Cr w sl c.L := by
  obtain ⟨cs, rfl⟩ : ∃ cs, v = .agg cs := by
    unfold Value.okWide at hval
    simp only [Tryz.underlying30] at hval
    obtain ⟨cs, hv, _⟩ := hval
    exact ⟨cs, hv⟩
  clear hval
  obtain ⟨fuel, hf⟩ := h
  obtain ⟨xs, n, rfl, hx, hl, hlen, hel⟩ := DataW.trod_struct Tryz.underlying30 hf
  have hc : Value.cells (.agg cs) = cs := rfl
  rw [hc] at hl hel
  rw [cellsA27] at hl
  obtain ⟨l⟩ := cs
  obtain ⟨c0, c1, c2, c3, c4, c5, c6, c7, c8, c9, rfl⟩ := list10 (show l.length = 10 from hl)
  obtain ⟨x0, x1, rfl⟩ : ∃ x0 x1, xs = [x0, x1] := by
    match xs, (show xs.length = 2 from hlen) with
    | [a, b], _ => exact ⟨a, b, rfl⟩
  have e0 : DataW.trod enc Tryz.prog w base spare held n 27 (([c0, c1, c2, c3, c4, c5, c6, c7, c8, c9].drop 0).take (Tryz.prog.cellsOf 27)) = some x0 := hel 0 _ rfl
  have e1 : DataW.trod enc Tryz.prog w base spare held n 28 (([c0, c1, c2, c3, c4, c5, c6, c7, c8, c9].drop 5).take (Tryz.prog.cellsOf 28)) = some x1 := hel 1 _ rfl
  rw [cellsA24] at e0; rw [cellsA25] at e1
  obtain ⟨ys, n1, _, _, _, hy, hya⟩ := DataW.trod_array Tryz.underlying27 (show DataW.trod _ _ _ _ _ _ _ 27 [c0, c1, c2, c3, c4] = some x0 from e0)
  obtain ⟨zs, n2, _, _, _, hz, hza⟩ := DataW.trod_array Tryz.underlying28 (show DataW.trod _ _ _ _ _ _ _ 28 [c5, c6, c7, c8, c9] = some x1 from e1)
  obtain ⟨y0, y1, y2, y3, y4, rfl⟩ := klist5 hy
  obtain ⟨z0, z1, z2, z3, z4, rfl⟩ := klist5 hz
  rw [cellsA23] at hya; rw [cellsA4] at hza
  obtain ⟨l0, r0⟩ := open_rs (show DataW.trod enc Tryz.prog w base spare held n1 26 [c0] = some y0 from hya 0 (by decide))
  obtain ⟨l1, r1⟩ := open_rs (show DataW.trod enc Tryz.prog w base spare held n1 26 [c1] = some y1 from hya 1 (by decide))
  obtain ⟨l2, r2⟩ := open_rs (show DataW.trod enc Tryz.prog w base spare held n1 26 [c2] = some y2 from hya 2 (by decide))
  obtain ⟨l3, r3⟩ := open_rs (show DataW.trod enc Tryz.prog w base spare held n1 26 [c3] = some y3 from hya 3 (by decide))
  obtain ⟨l4, r4⟩ := open_rs (show DataW.trod enc Tryz.prog w base spare held n1 26 [c4] = some y4 from hya 4 (by decide))
  obtain ⟨b0, a0, _⟩ := DataW.trod_bool Tryz.underlying4 (show DataW.trod enc Tryz.prog w base spare held n2 4 [c5] = some z0 from hza 0 (by decide))
  obtain ⟨b1, a1, _⟩ := DataW.trod_bool Tryz.underlying4 (show DataW.trod enc Tryz.prog w base spare held n2 4 [c6] = some z1 from hza 1 (by decide))
  obtain ⟨b2, a2, _⟩ := DataW.trod_bool Tryz.underlying4 (show DataW.trod enc Tryz.prog w base spare held n2 4 [c7] = some z2 from hza 2 (by decide))
  obtain ⟨b3, a3, _⟩ := DataW.trod_bool Tryz.underlying4 (show DataW.trod enc Tryz.prog w base spare held n2 4 [c8] = some z3 from hza 3 (by decide))
  obtain ⟨b4, a4, _⟩ := DataW.trod_bool Tryz.underlying4 (show DataW.trod enc Tryz.prog w base spare held n2 4 [c9] = some z4 from hza 4 (by decide))
  cases a0; cases a1; cases a2; cases a3; cases a4
  refine ⟨pick5 c0 c1 c2 c3 c4, ⟨pick5 l0 l1 l2 l3 l4, pick5 b0 b1 b2 b3 b4⟩, rfl, fun i hi => ?_⟩
  rcases (show i = 0 ∨ i = 1 ∨ i = 2 ∨ i = 3 ∨ i = 4 by omega) with rfl | rfl | rfl | rfl | rfl
  · exact r0
  · exact r1
  · exact r2
  · exact r3
  · exact r4
theorem laidOutA : laidOutB Tryz.prog = true := by kernel_rfl
/-- the argument reads behind the call as it did -/
theorem shut_cron {W W' : World} {v : Value} {d : DataW H} {ps before : List MemPlace} (h : DataW.Trod enc Tryz.prog W 0 (fun _ => true) true 30 v d ps) (k : Kept W W') (hlt : ∀ x ∈ before, x.block < W.heap.size) (hsub : ∀ x ∈ ps, x ∈ before) {sp : Nat → Bool} (hsp : ∀ p ∈ before, sp p.block = true) :
    DataW.Trod enc Tryz.prog W' 0 sp true 30 v d ps :=
  WideElems.Trod_stays laidOutA (by kernel_rfl) (of_decide_eq_true (by kernel_rfl)) h (fun x hx => (k.below (Nat.le_refl _)).same (hlt x (hsub x hx))) (fun x hx => hsp x (hsub x hx))
end Go.Proofs.YtilgamjahediiaaGreatDoor
