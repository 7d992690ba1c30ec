/- What answers and whole numbers among the arguments read as. -/
import Derived.Test.YtdfmnjoklehifaaDoorRpOp
import Derived.Laws.IdiomArrays
set_option linter.unusedSimpArgs false
set_option linter.unusedVariables false
namespace Go.Proofs.YtdfmnjoklehifaaDoor.Bk.Rp
open Go.ChangeShapes Go.WideShapes Go.ChangeAt Go.RowKit Go.Shelf
theorem cellsR5 : Tryd.prog.cellsOf 25 = 5 := by kernel_rfl
theorem cellsI1 : Tryd.prog.cellsOf 3 = 1 := by kernel_rfl
theorem cellsS1 : Tryd.prog.cellsOf 22 = 1 := by kernel_rfl
theorem cellsA3 : Tryd.prog.cellsOf 23 = 3 := by kernel_rfl
theorem list5 {α : Type} {l : List α} (h : l.length = 5) : ∃ a b c d e, l = [a, b, c, d, e] := by
  match l, h with
  | [a, b, c, d, e], _ => exact ⟨a, b, c, d, e, rfl⟩
theorem list3 {α : Type} {l : List α} (h : l.length = 3) : ∃ a b c, l = [a, b, c] := by
  match l, h with
  | [a, b, c], _ => exact ⟨a, b, c, rfl⟩
section
variable {H : Type} {enc : TypeId × Value → H} {w : World} {base : Nat} {spare : Nat → Bool} {held : Bool}
set_option maxRecDepth 100000 in
theorem open_srd {n : Nat} {c : Value} {x : DataW H × List MemPlace} (hf' : DataW.trod enc Tryd.prog w base spare held n 22 [c] = some x) : ∃ l : List B, SRd c l w ∧ l.length ≤ maxLen ∧ ∀ s ∈ l, s.length ≤ maxLen := by
  rcases DataW.trod_slice Tryd.underlying22 hf' with ⟨hc, hx⟩ | ⟨a, len, cap, elems, rest, m, _, hc, hx, hb, hl, hm, hlen, hel, _, _⟩
  · obtain rfl : c = .slice none 0 0 := by simpa using hc
    exact ⟨[], ⟨none, 0, rfl, fun h => absurd rfl h⟩, Nat.zero_le _, by simp⟩
  · obtain rfl : c = .slice (some a) len cap := by simpa using hc
    rw [cellsIs] at hel
    have each : ∀ i, i < len → ∃ t : B, a.spot = none ∧ w.cell? ⟨a.block, a.off + i, none⟩ = some (sV t) ∧ t.length ≤ maxLen := by
      intro i hi
      have h1 := hel i hi
      have hei : elems[i]? = some (elems[i]'(by omega)) := List.getElem?_eq_getElem (by omega)
      rw [hei, Option.bind_eq_some_iff, Nat.mul_one] at h1
      obtain ⟨cs, hcs, ht⟩ := h1
      obtain ⟨s, rfl, hxs, hz⟩ := DataW.trod_string Tryd.underlying9 ht
      have h2 := hel 0 (by omega)
      rw [List.getElem?_eq_getElem (by omega), Option.bind_eq_some_iff, Nat.zero_mul, Addr.add_zero'] at h2
      obtain ⟨cs0, hcs0, _⟩ := h2
      have hs := cells_spot hcs0 (by omega)
      obtain ⟨g, o, sp⟩ := a
      cases hs
      rw [Addr.add_lit] at hcs
      have hsl : s.data.toList.length = s.size := by rw [Array.length_toList]; rfl
      exact ⟨s.data.toList, rfl, by rw [sV, toList_mk]; exact cells_at hcs (i := 0) rfl, by rw [hsl]; exact hz⟩
    obtain ⟨al, hal, hp⟩ := mk_list len _ each
    refine ⟨al, ⟨some a, cap, by rw [hal], fun hne => ?_⟩, by omega, fun x hx => ?_⟩
    · obtain ⟨t0, ht0⟩ : ∃ t, al[0]? = some t := by
        cases al with
        | nil => exact absurd rfl hne
        | cons t l => exact ⟨t, rfl⟩
      have hs := (hp 0 t0 ht0).1
      obtain ⟨g, o, sp⟩ := a
      cases hs
      exact ⟨g, o, rfl, by omega, fun i t ht => (hp i t ht).2.1⟩
    · obtain ⟨i, hi⟩ := List.getElem?_of_mem hx
      exact (hp i x hi).2.2
/-- an answer's lines are no more, and no longer, than may be -/
def SmR (x : Rep) : Prop := x.2.1.length ≤ maxLen ∧ ∀ s ∈ x.2.1, s.length ≤ maxLen
set_option maxRecDepth 100000 in
theorem open_rep5 {n : Nat} {cs : List Value} {x : DataW H × List MemPlace} (h : DataW.trod enc Tryd.prog w base spare held n 25 cs = some x) :
    ∃ (r : Rep) (lv : Value), cs = [iV r.1, lv, iV r.2.2.1, iV r.2.2.2.1, iV r.2.2.2.2] ∧ SRd lv r.2.1 w ∧ SmR r := by
  obtain ⟨xs, m, rfl, hx, hl, hlen, hel⟩ := DataW.trod_struct Tryd.underlying25 h
  rw [cellsR5] at hl
  obtain ⟨c0, c1, c2, c3, c4, rfl⟩ := list5 hl
  obtain ⟨x0, x1, x2, rfl⟩ := list3 (show xs.length = 3 from hlen)
  have e0 : DataW.trod enc Tryd.prog w base spare held m 3 (([c0, c1, c2, c3, c4].drop 0).take (Tryd.prog.cellsOf 3)) = some x0 := hel 0 _ rfl
  have e1 : DataW.trod enc Tryd.prog w base spare held m 22 (([c0, c1, c2, c3, c4].drop 1).take (Tryd.prog.cellsOf 22)) = some x1 := hel 1 _ rfl
  have e2 : DataW.trod enc Tryd.prog w base spare held m 23 (([c0, c1, c2, c3, c4].drop 2).take (Tryd.prog.cellsOf 23)) = some x2 := hel 2 _ rfl
  rw [cellsI1] at e0
  rw [cellsS1] at e1
  rw [cellsA3] at e2
  obtain ⟨n0, q0, _, _⟩ := DataW.trod_int Tryd.underlying3 (show DataW.trod enc Tryd.prog w base spare held m 3 [c0] = some x0 from e0)
  obtain ⟨ls, h1, h2, h3⟩ := open_srd (show DataW.trod enc Tryd.prog w base spare held m 22 [c1] = some x1 from e1)
  obtain ⟨y0, y1, y2, k, _, f0, f1, f2⟩ := trod_array3 Tryd.underlying23 cellsI1 (show DataW.trod enc Tryd.prog w base spare held m 23 [c2, c3, c4] = some x2 from e2)
  obtain ⟨m0, q1, _, _⟩ := DataW.trod_int Tryd.underlying3 f0
  obtain ⟨m1, q2, _, _⟩ := DataW.trod_int Tryd.underlying3 f1
  obtain ⟨m2, q3, _, _⟩ := DataW.trod_int Tryd.underlying3 f2
  cases q0; cases q1; cases q2; cases q3
  exact ⟨(n0, ls, m0, m1, m2), c1, rfl, h1, h2, h3⟩
set_option maxRecDepth 100000 in
theorem open_reply8 {r : Reach} {b0 : Nat} {v : Value} {d : DataW H} {p : List MemPlace}
    (hval : Value.okWide Tryd.prog w r b0 25 v) (h : DataW.Trod enc Tryd.prog w base spare held 25 v d p) : ∃ (x : Rep) (lv : Value), v = repV x lv ∧ SRd lv x.2.1 w ∧ SmR x := by
  obtain ⟨cs, rfl⟩ : ∃ cs, v = .agg cs := by
    unfold Value.okWide at hval
    simp only [Tryd.underlying25] at hval
    obtain ⟨cs, hv, _⟩ := hval
    exact ⟨cs, hv⟩
  clear hval
  obtain ⟨fuel, hf⟩ := h
  obtain ⟨x, lv, he, hs⟩ := open_rep5 hf
  obtain ⟨l⟩ := cs
  refine ⟨x, lv, ?_, hs⟩
  have hl : l = [iV x.1, lv, iV x.2.2.1, iV x.2.2.2.1, iV x.2.2.2.2] := he
  rw [hl]
set_option maxRecDepth 100000 in
theorem open_replies8 {r : Reach} {b0 : Nat} {v : Value} {d : DataW H} {p : List MemPlace}
    (hval : Value.okWide Tryd.prog w r b0 32 v) (h : DataW.Trod enc Tryd.prog w base spare held 32 v d p) : ∃ l : List Rep, RpRd v l w ∧ ∀ x ∈ l, x.2.1.length ≤ maxLen := by
  obtain ⟨ad, len, cap, rfl⟩ := okWide_slice Tryd.underlying32 hval
  obtain ⟨fuel, hf⟩ := h
  have hf' : DataW.trod enc Tryd.prog w base spare held fuel 32 [Value.slice ad len cap] = some (d, p) := hf
  clear hf hval
  rcases DataW.trod_slice Tryd.underlying32 hf' with ⟨hc, hx⟩ | ⟨a, len', cap', elems, rest, m, _, hc, hx, hb, hl, hm, hlen, hel, _, _⟩
  · obtain ⟨rfl, rfl, rfl⟩ : ad = none ∧ len = 0 ∧ cap = 0 := by simpa using hc
    exact ⟨[], RpRd.nil _, by simp⟩
  · obtain ⟨rfl, rfl, rfl⟩ : ad = some a ∧ len = len' ∧ cap = cap' := by simpa using hc
    rw [cellsR5] at hel
    have each : ∀ i, i < len → ∃ t : Rep, a.spot = none ∧ RpAt a.block (a.off + i * 5) t w ∧ t.2.1.length ≤ maxLen := by
      intro i hi
      have h1 := hel i hi
      have hei : elems[i]? = some (elems[i]'(by omega)) := List.getElem?_eq_getElem (by omega)
      rw [hei, Option.bind_eq_some_iff] at h1
      obtain ⟨cs, hcs, ht⟩ := h1
      obtain ⟨t, lv, rfl, hsr, hsm⟩ := open_rep5 ht
      have h2 := hel 0 (by omega)
      rw [List.getElem?_eq_getElem (by omega), Option.bind_eq_some_iff, Nat.zero_mul, Addr.add_zero'] at h2
      obtain ⟨cs0, hcs0, _⟩ := h2
      have hs := cells_spot hcs0 (by omega)
      obtain ⟨g, o, sp⟩ := a
      cases hs
      rw [Addr.add_lit] at hcs
      exact ⟨t, rfl, ⟨lv, cells_at hcs (i := 0) rfl, cells_at hcs (i := 1) rfl, cells_at hcs (i := 2) rfl, cells_at hcs (i := 3) rfl, cells_at hcs (i := 4) rfl, hsr⟩, hsm.1⟩
    obtain ⟨al, hal, hp⟩ := mk_list len _ each
    have hel2 : elems.length = len := by omega
    refine ⟨al, ⟨some a, cap, by rw [hal], fun hne => ?_⟩, fun x hx => ?_⟩
    · obtain ⟨t0, ht0⟩ : ∃ t, al[0]? = some t := by
        cases al with
        | nil => exact absurd rfl hne
        | cons t l => exact ⟨t, rfl⟩
      have hs := (hp 0 t0 ht0).1
      obtain ⟨g, o, sp⟩ := a
      cases hs
      exact ⟨g, o, rfl, by omega, fun i t ht => (hp i t ht).2.1⟩
    · obtain ⟨i, hi⟩ := List.getElem?_of_mem hx
      exact (hp i x hi).2.2
/-- whole numbers, to be read -/
def IRd (v : Value) (l : List Int) (w : World) : Prop := ∃ a c, v = .slice a l.length c ∧ (l ≠ [] → ∃ g o, a = some ⟨g, o, none⟩ ∧ l.length ≤ c ∧ ∀ (i : Nat) (z : Int), l[i]? = some z → w.cell? ⟨g, o + i, none⟩ = some (iV z))
set_option maxRecDepth 100000 in
theorem open_numbers8 {r : Reach} {b0 : Nat} {v : Value} {d : DataW H} {p : List MemPlace}
    (hval : Value.okWide Tryd.prog w r b0 37 v) (h : DataW.Trod enc Tryd.prog w base spare held 37 v d p) : ∃ l : List Int, IRd v l w := by
  obtain ⟨ad, len, cap, rfl⟩ := okWide_slice Tryd.underlying37 hval
  obtain ⟨fuel, hf⟩ := h
  have hf' : DataW.trod enc Tryd.prog w base spare held fuel 37 [Value.slice ad len cap] = some (d, p) := hf
  clear hf hval
  rcases DataW.trod_slice Tryd.underlying37 hf' with ⟨hc, hx⟩ | ⟨a, len', cap', elems, rest, m, _, hc, hx, hb, hl, hm, hlen, hel, _, _⟩
  · obtain ⟨rfl, rfl, rfl⟩ : ad = none ∧ len = 0 ∧ cap = 0 := by simpa using hc
    exact ⟨[], ⟨none, 0, rfl, fun h => absurd rfl h⟩⟩
  · obtain ⟨rfl, rfl, rfl⟩ : ad = some a ∧ len = len' ∧ cap = cap' := by simpa using hc
    rw [cellsI1] at hel
    have each : ∀ i, i < len → ∃ t : Int, a.spot = none ∧ w.cell? ⟨a.block, a.off + i, none⟩ = some (iV t) := by
      intro i hi
      have h1 := hel i hi
      have hei : elems[i]? = some (elems[i]'(by omega)) := List.getElem?_eq_getElem (by omega)
      rw [hei, Option.bind_eq_some_iff, Nat.mul_one] at h1
      obtain ⟨cs, hcs, ht⟩ := h1
      obtain ⟨c, rfl⟩ : ∃ c, cs = [c] := by
        have := (World.cells?_some hcs).2.1
        match cs, this with
        | [c], _ => exact ⟨c, rfl⟩
      obtain ⟨z, q, _, _⟩ := DataW.trod_int Tryd.underlying3 ht
      cases q
      have h2 := hel 0 (by omega)
      rw [List.getElem?_eq_getElem (by omega), Option.bind_eq_some_iff, Nat.zero_mul, Addr.add_zero'] at h2
      obtain ⟨cs0, hcs0, _⟩ := h2
      have hs := cells_spot hcs0 (by omega)
      obtain ⟨g, o, sp⟩ := a
      cases hs
      rw [Addr.add_lit] at hcs
      exact ⟨z, rfl, cells_at hcs (i := 0) rfl⟩
    obtain ⟨al, hal, hp⟩ := mk_list len _ each
    refine ⟨al, ⟨some a, cap, by rw [hal], fun hne => ?_⟩⟩
    obtain ⟨t0, ht0⟩ : ∃ t, al[0]? = some t := by
      cases al with
      | nil => exact absurd rfl hne
      | cons t l => exact ⟨t, rfl⟩
    have hs := (hp 0 t0 ht0).1
    obtain ⟨g, o, sp⟩ := a
    cases hs
    exact ⟨g, o, rfl, by omega, fun i t ht => (hp i t ht).2⟩
theorem shut_reply8 {W W' : World} {v : Value} {d : DataW H} {ps before : List MemPlace} (h : DataW.Trod enc Tryd.prog W 0 (fun _ => true) true 25 v d ps) (k : Kept W W') (hlt : ∀ x ∈ before, x.block < W.heap.size) (hsub : ∀ x ∈ ps, x ∈ before) {sp : Nat → Bool} (hsp : ∀ p ∈ before, sp p.block = true) :
    DataW.Trod enc Tryd.prog W' 0 sp true 25 v d ps :=
  WideElems.Trod_stays laidOutB8 (by kernel_rfl) (of_decide_eq_true (by kernel_rfl)) h (fun x hx => (k.below (Nat.le_refl _)).same (hlt x (hsub x hx))) (fun x hx => hsp x (hsub x hx))
theorem shut_replies8 {W W' : World} {v : Value} {d : DataW H} {ps before : List MemPlace} (h : DataW.Trod enc Tryd.prog W 0 (fun _ => true) true 32 v d ps) (k : Kept W W') (hlt : ∀ x ∈ before, x.block < W.heap.size) (hsub : ∀ x ∈ ps, x ∈ before) {sp : Nat → Bool} (hsp : ∀ p ∈ before, sp p.block = true) :
    DataW.Trod enc Tryd.prog W' 0 sp true 32 v d ps :=
  WideElems.Trod_stays laidOutB8 (by kernel_rfl) (of_decide_eq_true (by kernel_rfl)) h (fun x hx => (k.below (Nat.le_refl _)).same (hlt x (hsub x hx))) (fun x hx => hsp x (hsub x hx))
theorem shut_numbers8 {W W' : World} {v : Value} {d : DataW H} {ps before : List MemPlace} (h : DataW.Trod enc Tryd.prog W 0 (fun _ => true) true 37 v d ps) (k : Kept W W') (hlt : ∀ x ∈ before, x.block < W.heap.size) (hsub : ∀ x ∈ ps, x ∈ before) {sp : Nat → Bool} (hsp : ∀ p ∈ before, sp p.block = true) :
    DataW.Trod enc Tryd.prog W' 0 sp true 37 v d ps :=
  WideElems.Trod_stays laidOutB8 (by kernel_rfl) (of_decide_eq_true (by kernel_rfl)) h (fun x hx => (k.below (Nat.le_refl _)).same (hlt x (hsub x hx))) (fun x hx => hsp x (hsub x hx))
end
end Go.Proofs.YtdfmnjoklehifaaDoor.Bk.Rp
