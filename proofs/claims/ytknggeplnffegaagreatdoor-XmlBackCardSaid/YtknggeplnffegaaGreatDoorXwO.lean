/- What the arguments of package xml's laws read as; that they read so behind the call. -/
import Derived.Test.YtknggeplnffegaaGreatDoorEnOpen
import Derived.Test.YtknggeplnffegaaGreatDoorXwA
import Derived.Test.YtknggeplnffegaaGreatDoorXmX
import Derived.Carry
import Derived.ChangeSlices
set_option linter.unusedVariables false
namespace Go.Proofs.YtknggeplnffegaaGreatDoor
open Go.ChangeShapes Go.WideShapes Go.ChangeAt Go.RowKit
open En Xm
variable {H : Type} {enc : TypeId × Value → H} {w : World} {base : Nat} {spare : Nat → Bool} {held : Bool}
theorem cellsB1 : Tryz.prog.cellsOf 5 = 1 := by kernel_rfl
theorem cellsB2 : Tryz.prog.cellsOf 44 = 2 := by kernel_rfl
theorem cellsB4 : Tryz.prog.cellsOf 38 = 4 := by kernel_rfl
theorem cellsBs : Tryz.prog.cellsOf 9 = 1 := by kernel_rfl
theorem cellsBi : Tryz.prog.cellsOf 3 = 1 := by kernel_rfl
theorem cellsBa : Tryz.prog.cellsOf 36 = 1 := by kernel_rfl
theorem laidOutB8 : laidOutB Tryz.prog = true := by kernel_rfl
/-- one cell of a row -/
theorem cells_at {g o n : Nat} {cs : List Value} (h : w.cells? base ⟨g, o, none⟩ n = some cs) {i : Nat} {v : Value} (hi : cs[i]? = some v) : w.cell? ⟨g, o + i, none⟩ = some v := by
  obtain ⟨_, hl, q⟩ := World.cells?_some h
  have hn : i < n := by rw [← hl]; exact (List.getElem?_eq_some_iff.1 hi).1
  have := q i hn
  rwa [Addr.add_lit, hi] at this
theorem cells_spot {a : Addr} {n : Nat} {cs : List Value} (h : w.cells? base a n = some cs) (hn : 0 < n) : a.spot = none := by
  obtain ⟨_, hl, q⟩ := World.cells?_some h
  have h0 := q 0 hn
  rw [Addr.add_zero'] at h0
  obtain ⟨v, hv⟩ : ∃ v, cs[0]? = some v := by
    cases cs with
    | nil => simp at hl; omega
    | cons v l => exact ⟨v, rfl⟩
  exact World.cell?_spot (h0.trans hv)
/-- a list made of what each place has -/
theorem mk_list {α : Type} : ∀ (n : Nat) (P : Nat → α → Prop), (∀ i, i < n → ∃ x, P i x) → ∃ l : List α, l.length = n ∧ ∀ (i : Nat) (x : α), l[i]? = some x → P i x
  | 0, P, _ => ⟨[], rfl, fun i x h => by simp at h⟩
  | n + 1, P, h => by
    obtain ⟨x, hx⟩ := h 0 (by omega)
    obtain ⟨l, hl, hp⟩ := mk_list n (fun i => P (i + 1)) (fun i hi => h (i + 1) (by omega))
    refine ⟨x :: l, by simp [hl], fun i y hy => ?_⟩
    cases i with
    | zero =>
      simp only [List.getElem?_cons_zero, Option.some.injEq] at hy
      subst hy; exact hx
    | succ i => exact hp i y (by simpa using hy)
set_option maxRecDepth 100000 in
theorem open_brd {n : Nat} {c : Value} {x : DataW H × List MemPlace} (h : DataW.trod enc Tryz.prog w base spare held n 22 [c] = some x) : ∃ l, BRd c l w ∧ l.length ≤ maxLen := by
  rcases open_ints Tryz.underlying22 Tryz.underlying5 cellsB1 h with ⟨hc, _⟩ | ⟨a, len, cap, zs, hc, hb, hl, hm, hlen, hx, hcell, hwf⟩
  · obtain rfl : c = .slice none 0 0 := by simpa using hc
    exact ⟨[], ⟨none, 0, rfl, fun h => absurd rfl h⟩, Nat.zero_le _⟩
  · obtain rfl : c = .slice (some a) len cap := by simpa using hc
    have hz : len ≤ zs.length := by rw [hlen]; split <;> omega
    have hlz : ((zs.take len).map fun z => UInt8.ofNat z.toNat).length = len := by rw [List.length_map, List.length_take, Nat.min_eq_left hz]
    refine ⟨(zs.take len).map fun z => UInt8.ofNat z.toNat, ⟨some a, cap, by rw [hlz], fun hne => ?_⟩, by rw [hlz]; omega⟩
    have h0 : 0 < len := by
      rcases Nat.eq_zero_or_pos len with q | q
      · exact absurd (List.length_eq_zero_iff.1 (hlz.trans q)) hne
      · exact q
    have hlt := hcell 0 (by omega)
    obtain ⟨b, o, sp⟩ := a
    have hspot : sp = none := by simpa [Addr.add] using World.cell?_spot hlt
    subst hspot
    refine ⟨b, o, rfl, by rw [hlz]; exact hl, fun i y hy => ?_⟩
    have hi : i < len := by
      have := (List.getElem?_eq_some_iff.1 hy).1
      rwa [hlz] at this
    have hz2 : zs[i]? = some (zs.getD i 0) := by
      rw [List.getD_eq_getElem?_getD, List.getElem?_eq_getElem (by omega)]; rfl
    rw [List.getElem?_map, List.getElem?_take, if_pos hi, hz2] at hy
    simp only [Option.map_some, Option.some.injEq] at hy
    have hw := hwf _ (List.mem_of_getElem? hz2)
    have hb : 0 ≤ zs.getD i 0 ∧ zs.getD i 0 ≤ 255 := by simpa [Lit.wf, IntKind.min, IntKind.max, IntKind.signed, IntKind.bits] using hw
    have hq := hcell i (by omega)
    rw [Addr.add_lit] at hq
    rw [hq, ← hy, UInt8.toNat_ofNat']
    congr 2
    omega
theorem list2 {α : Type} {l : List α} (h : l.length = 2) : ∃ a b, l = [a, b] := by
  match l, h with
  | [a, b], _ => exact ⟨a, b, rfl⟩
theorem list4 {α : Type} {l : List α} (h : l.length = 4) : ∃ a b c d, l = [a, b, c, d] := by
  match l, h with
  | [a, b, c, d], _ => exact ⟨a, b, c, d, rfl⟩
theorem sV_of (s : ByteArray) : Value.string s = sV s.data.toList := by rw [sV, toList_mk]
set_option maxRecDepth 100000 in
theorem open_atr {n : Nat} {cs : List Value} {x : DataW H × List MemPlace} (h : DataW.trod enc Tryz.prog w base spare held n 44 cs = some x) : ∃ t : Atr, cs = [sV t.1, sV t.2] := by
  obtain ⟨xs, m, rfl, hx, hl, hlen, hel⟩ := DataW.trod_struct Tryz.underlying44 h
  rw [cellsB2] at hl
  obtain ⟨c0, c1, rfl⟩ := list2 hl
  obtain ⟨x0, x1, rfl⟩ := list2 (show xs.length = 2 from hlen)
  have e0 : DataW.trod enc Tryz.prog w base spare held m 9 (([c0, c1].drop 0).take (Tryz.prog.cellsOf 9)) = some x0 := hel 0 _ rfl
  have e1 : DataW.trod enc Tryz.prog w base spare held m 9 (([c0, c1].drop 1).take (Tryz.prog.cellsOf 9)) = some x1 := hel 1 _ rfl
  rw [cellsBs] at e0 e1
  obtain ⟨s0, q0, _, _⟩ := DataW.trod_string Tryz.underlying9 (show DataW.trod enc Tryz.prog w base spare held m 9 [c0] = some x0 from e0)
  obtain ⟨s1, q1, _, _⟩ := DataW.trod_string Tryz.underlying9 (show DataW.trod enc Tryz.prog w base spare held m 9 [c1] = some x1 from e1)
  cases q0; cases q1
  exact ⟨(s0.data.toList, s1.data.toList), by rw [sV_of, sV_of]⟩
set_option maxRecDepth 100000 in
theorem open_ats {n : Nat} {c : Value} {x : DataW H × List MemPlace} (h : DataW.trod enc Tryz.prog w base spare held n 36 [c] = some x) : ∃ al, AtRd c al w ∧ al.length ≤ maxLen := by
  rcases DataW.trod_slice Tryz.underlying36 h with ⟨hc, _⟩ | ⟨a, len, cap, elems, rest, m, _, hc, _, hb, hl, hm, hlen, hel, _, _⟩
  · obtain rfl : c = .slice none 0 0 := by simpa using hc
    exact ⟨[], ⟨none, 0, rfl, fun h => absurd rfl h⟩, Nat.zero_le _⟩
  · obtain rfl : c = .slice (some a) len cap := by simpa using hc
    rw [cellsB2] at hel
    have each : ∀ i, i < len → ∃ t : Atr, a.spot = none ∧ w.cell? ⟨a.block, a.off + i * 2, none⟩ = some (sV t.1) ∧ w.cell? ⟨a.block, a.off + i * 2 + 1, none⟩ = some (sV t.2) := by
      intro i hi
      have h1 := hel i hi
      rw [List.getElem?_eq_getElem (by omega), Option.bind_eq_some_iff] at h1
      obtain ⟨cs, hcs, ht⟩ := h1
      obtain ⟨t, rfl⟩ := open_atr ht
      have h2 := hel 0 (by omega)
      rw [List.getElem?_eq_getElem (by omega), Option.bind_eq_some_iff, Nat.zero_mul, Addr.add_zero'] at h2
      obtain ⟨cs0, hcs0, _⟩ := h2
      have hs := cells_spot hcs0 (by omega)
      obtain ⟨g, o, sp⟩ := a
      cases hs
      rw [Addr.add_lit] at hcs
      exact ⟨t, rfl, cells_at hcs (i := 0) rfl, cells_at hcs (i := 1) rfl⟩
    obtain ⟨al, hal, hp⟩ := mk_list len _ each
    refine ⟨al, ⟨some a, cap, by rw [hal], fun hne => ?_⟩, by omega⟩
    obtain ⟨t0, ht0⟩ : ∃ t, al[0]? = some t := by
      cases al with
      | nil => exact absurd rfl hne
      | cons t l => exact ⟨t, rfl⟩
    have hs := (hp 0 t0 ht0).1
    obtain ⟨g, o, sp⟩ := a
    cases hs
    exact ⟨g, o, rfl, by omega, fun i t ht => (hp i t ht).2⟩
set_option maxRecDepth 100000 in
theorem open_tk {n : Nat} {cs : List Value} {x : DataW H × List MemPlace} (h : DataW.trod enc Tryz.prog w base spare held n 38 cs = some x) : ∃ (t : Tk) (v : Value), cs = [iV t.1, sV t.2.1, sV t.2.2.1, v] ∧ AtRd v t.2.2.2 w ∧ t.2.2.2.length ≤ maxLen := by
  obtain ⟨xs, m, rfl, hx, hl, hlen, hel⟩ := DataW.trod_struct Tryz.underlying38 h
  rw [cellsB4] at hl
  obtain ⟨c0, c1, c2, c3, rfl⟩ := list4 hl
  obtain ⟨x0, x1, x2, x3, rfl⟩ := list4 (show xs.length = 4 from hlen)
  have e0 : DataW.trod enc Tryz.prog w base spare held m 3 (([c0, c1, c2, c3].drop 0).take (Tryz.prog.cellsOf 3)) = some x0 := hel 0 _ rfl
  have e1 : DataW.trod enc Tryz.prog w base spare held m 9 (([c0, c1, c2, c3].drop 1).take (Tryz.prog.cellsOf 9)) = some x1 := hel 1 _ rfl
  have e2 : DataW.trod enc Tryz.prog w base spare held m 9 (([c0, c1, c2, c3].drop 2).take (Tryz.prog.cellsOf 9)) = some x2 := hel 2 _ rfl
  have e3 : DataW.trod enc Tryz.prog w base spare held m 36 (([c0, c1, c2, c3].drop 3).take (Tryz.prog.cellsOf 36)) = some x3 := hel 3 _ rfl
  rw [cellsBs] at e1 e2
  rw [cellsBi] at e0
  rw [cellsBa] at e3
  obtain ⟨s0, q0, _, _⟩ := DataW.trod_int Tryz.underlying3 (show DataW.trod enc Tryz.prog w base spare held m 3 [c0] = some x0 from e0)
  obtain ⟨s1, q1, _, _⟩ := DataW.trod_string Tryz.underlying9 (show DataW.trod enc Tryz.prog w base spare held m 9 [c1] = some x1 from e1)
  obtain ⟨s2, q2, _, _⟩ := DataW.trod_string Tryz.underlying9 (show DataW.trod enc Tryz.prog w base spare held m 9 [c2] = some x2 from e2)
  obtain ⟨al, ha, hal⟩ := open_ats (show DataW.trod enc Tryz.prog w base spare held m 36 [c3] = some x3 from e3)
  cases q0; cases q1; cases q2
  exact ⟨(s0, s1.data.toList, s2.data.toList, al), c3, by rw [sV_of, sV_of], ha, hal⟩
set_option maxRecDepth 100000 in
theorem open_tks {n : Nat} {c : Value} {x : DataW H × List MemPlace} (h : DataW.trod enc Tryz.prog w base spare held n 24 [c] = some x) : ∃ l, TkRd c l w ∧ l.length ≤ maxLen := by
  rcases DataW.trod_slice Tryz.underlying24 h with ⟨hc, _⟩ | ⟨a, len, cap, elems, rest, m, _, hc, _, hb, hl, hm, hlen, hel, _, _⟩
  · obtain rfl : c = .slice none 0 0 := by simpa using hc
    exact ⟨[], ⟨none, 0, rfl, fun h => absurd rfl h⟩, Nat.zero_le _⟩
  · obtain rfl : c = .slice (some a) len cap := by simpa using hc
    rw [cellsB4] at hel
    have each : ∀ i, i < len → ∃ t : Tk, a.spot = none ∧ ∃ v, TkAt a.block (a.off + i * 4) t v w := by
      intro i hi
      have h1 := hel i hi
      rw [List.getElem?_eq_getElem (by omega), Option.bind_eq_some_iff] at h1
      obtain ⟨cs, hcs, ht⟩ := h1
      obtain ⟨t, v, rfl, hv, _⟩ := open_tk ht
      have h2 := hel 0 (by omega)
      rw [List.getElem?_eq_getElem (by omega), Option.bind_eq_some_iff, Nat.zero_mul, Addr.add_zero'] at h2
      obtain ⟨cs0, hcs0, _⟩ := h2
      have hs := cells_spot hcs0 (by omega)
      obtain ⟨g, o, sp⟩ := a
      cases hs
      rw [Addr.add_lit] at hcs
      exact ⟨t, rfl, v, cells_at hcs (i := 0) rfl, cells_at hcs (i := 1) rfl, cells_at hcs (i := 2) rfl, cells_at hcs (i := 3) rfl, hv⟩
    obtain ⟨al, hal, hp⟩ := mk_list len _ each
    refine ⟨al, ⟨some a, cap, by rw [hal], fun hne => ?_⟩, by omega⟩
    obtain ⟨t0, ht0⟩ : ∃ t, al[0]? = some t := by
      cases al with
      | nil => exact absurd rfl hne
      | cons t l => exact ⟨t, rfl⟩
    have hs := (hp 0 t0 ht0).1
    obtain ⟨g, o, sp⟩ := a
    cases hs
    exact ⟨g, o, rfl, by omega, fun i t ht => (hp i t ht).2⟩
set_option maxRecDepth 100000 in
theorem open_bytes8 {r : Reach} {b0 : Nat} {v : Value} {d : DataW H} {p : List MemPlace}
    (hval : Value.okWide Tryz.prog w r b0 22 v) (h : DataW.Trod enc Tryz.prog w base spare held 22 v d p) : ∃ l, BRd v l w ∧ l.length ≤ maxLen := by
  obtain ⟨ad, len, cap, rfl⟩ := okWide_slice Tryz.underlying22 hval
  obtain ⟨fuel, hf⟩ := h
  exact open_brd (show DataW.trod enc Tryz.prog w base spare held fuel 22 [Value.slice ad len cap] = some (d, p) from hf)
set_option maxRecDepth 100000 in
theorem open_toks8 {r : Reach} {b0 : Nat} {v : Value} {d : DataW H} {p : List MemPlace}
    (hval : Value.okWide Tryz.prog w r b0 24 v) (h : DataW.Trod enc Tryz.prog w base spare held 24 v d p) : ∃ l, TkRd v l w ∧ l.length ≤ maxLen := by
  obtain ⟨ad, len, cap, rfl⟩ := okWide_slice Tryz.underlying24 hval
  obtain ⟨fuel, hf⟩ := h
  exact open_tks (show DataW.trod enc Tryz.prog w base spare held fuel 24 [Value.slice ad len cap] = some (d, p) from hf)
/-- an argument reads behind the call as it did -/
theorem shut_bytes8 {W W' : World} {v : Value} {d : DataW H} {ps before : List MemPlace} (h : DataW.Trod enc Tryz.prog W 0 (fun _ => true) true 22 v d ps) (k : Kept W W') (hlt : ∀ x ∈ before, x.block < W.heap.size) (hsub : ∀ x ∈ ps, x ∈ before) {sp : Nat → Bool} (hsp : ∀ p ∈ before, sp p.block = true) :
    DataW.Trod enc Tryz.prog W' 0 sp true 22 v d ps :=
  WideElems.Trod_stays laidOutB8 (by kernel_rfl) (of_decide_eq_true (by kernel_rfl)) h (fun x hx => (k.below (Nat.le_refl _)).same (hlt x (hsub x hx))) (fun x hx => hsp x (hsub x hx))
theorem shut_toks8 {W W' : World} {v : Value} {d : DataW H} {ps before : List MemPlace} (h : DataW.Trod enc Tryz.prog W 0 (fun _ => true) true 24 v d ps) (k : Kept W W') (hlt : ∀ x ∈ before, x.block < W.heap.size) (hsub : ∀ x ∈ ps, x ∈ before) {sp : Nat → Bool} (hsp : ∀ p ∈ before, sp p.block = true) :
    DataW.Trod enc Tryz.prog W' 0 sp true 24 v d ps :=
  WideElems.Trod_stays laidOutB8 (by kernel_rfl) (of_decide_eq_true (by kernel_rfl)) h (fun x hx => (k.below (Nat.le_refl _)).same (hlt x (hsub x hx))) (fun x hx => hsp x (hsub x hx))
end Go.Proofs.YtknggeplnffegaaGreatDoor
