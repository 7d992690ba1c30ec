/- Several texts of this seat, one behind the other. -/
import Derived.Test.YtflhmgnhjnaiiaaGreatDoorRows
import Derived.Test.YtflhmgnhjnaiiaaGreatDoorKept
import Derived.OpenShut
import Derived.ChangeMaps5
import Derived.Test.YtflhmgnhjnaiiaaGreatDoorXmZ
import Derived.Test.YtflhmgnhjnaiiaaGreatDoorXmX
import Derived.Carry
import Derived.ChangeSlices
set_option linter.unusedSimpArgs false
set_option linter.unusedVariables false
/- What the arguments of package ent's laws read as. -/
namespace Go.Proofs.YtflhmgnhjnaiiaaGreatDoor
open Go.ChangeShapes Go.WideShapes Go.ChangeAt Go.RowKit
theorem i64_bd {n : Int} (h : (Lit.int .i64 n).wf = true) : -9223372036854775808 ≤ n ∧ n ≤ 9223372036854775807 := by
  simpa [Lit.wf, IntKind.min, IntKind.max, IntKind.signed, IntKind.bits] using h
theorem toList_mk (s : ByteArray) : ⟨s.data.toList.toArray⟩ = s := by simp
set_option maxRecDepth 100000 in
theorem open_str {H : Type} {enc : TypeId × Value → H} {w : World} {base : Nat} {spare : Nat → Bool} {held : Bool} {r : Reach} {b0 : Nat} {v : Value} {d : DataW H} {p : List MemPlace}
    (hval : Value.okWide Tryz.prog w r b0 9 v) (h : DataW.Trod enc Tryz.prog w base spare held 9 v d p) :
    ∃ l : List UInt8, v = .string ⟨l.toArray⟩ ∧ d = .lit (.string l) ∧ p = [] ∧ l.length ≤ maxLen := by
  obtain ⟨s, rfl, rfl, rfl, z⟩ := Go.ChangeMaps.open_string Tryz.underlying9 hval h
  exact ⟨s.data.toList, by rw [toList_mk], rfl, rfl, by simpa using z⟩
set_option maxRecDepth 100000 in
theorem shut_str {H : Type} {enc : TypeId × Value → H} {w : World} {base : Nat} {spare : Nat → Bool} {held : Bool} {l : List UInt8} (z : l.length ≤ maxLen) :
    DataW.Trod enc Tryz.prog w base spare held 9 (.string ⟨l.toArray⟩) (.lit (.string l)) [] := by
  have := Go.ChangeMaps.shut_string (enc := enc) (w := w) (base := base) (sp := spare) (held := held) (s := ⟨l.toArray⟩) Tryz.underlying9 z
  simpa using this
set_option maxRecDepth 100000 in
theorem open_byte {H : Type} {enc : TypeId × Value → H} {w : World} {base : Nat} {spare : Nat → Bool} {held : Bool} {r : Reach} {b0 : Nat} {v : Value} {d : DataW H} {p : List MemPlace}
    (hval : Value.okWide Tryz.prog w r b0 5 v) (h : DataW.Trod enc Tryz.prog w base spare held 5 v d p) :
    ∃ c : UInt8, v = .int .u8 c.toNat ∧ d = .lit (.int .u8 c.toNat) ∧ p = [] ∧ (Lit.int .u8 (c.toNat : Int)).wf = true := by
  obtain ⟨n, rfl, rfl, rfl, z⟩ := open_int Tryz.underlying5 hval h
  have hb : 0 ≤ n ∧ n ≤ 255 := by simpa [Lit.wf, IntKind.min, IntKind.max, IntKind.signed, IntKind.bits] using z
  have e : ((UInt8.ofNat n.toNat).toNat : Int) = n := by rw [UInt8.toNat_ofNat']; omega
  exact ⟨UInt8.ofNat n.toNat, by rw [e], by rw [e], rfl, by rw [e]; exact z⟩
end Go.Proofs.YtflhmgnhjnaiiaaGreatDoor
/- What the arguments of package xml's laws read as; that they read so behind the call. -/
set_option linter.unusedVariables false
namespace Go.Proofs.YtflhmgnhjnaiiaaGreatDoor
open Go.ChangeShapes Go.WideShapes Go.ChangeAt Go.RowKit
open En Xm
variable {H : Type} {enc : TypeId × Value → H} {w : World} {base : Nat} {spare : Nat → Bool} {held : Bool}
theorem cellsB1 : Tryz.prog.cellsOf 5 = 1 := by kernel_rfl
theorem cellsB2 : Tryz.prog.cellsOf 120 = 2 := by kernel_rfl
theorem cellsB4 : Tryz.prog.cellsOf 43 = 4 := by kernel_rfl
theorem cellsBs : Tryz.prog.cellsOf 9 = 1 := by kernel_rfl
theorem cellsBi : Tryz.prog.cellsOf 3 = 1 := by kernel_rfl
theorem cellsBa : Tryz.prog.cellsOf 41 = 1 := by kernel_rfl
theorem laidOutB8 : laidOutB Tryz.prog = true := by kernel_rfl
/-- one cell of a row -/
theorem cells_at {g o n : Nat} {cs : List Value} (h : w.cells? base ⟨g, o, none⟩ n = some cs) {i : Nat} {v : Value} (hi : cs[i]? = some v) : w.cell? ⟨g, o + i, none⟩ = some v := by
  obtain ⟨_, hl, q⟩ := World.cells?_some h
  have hn : i < n := by rw [← hl]; exact (List.getElem?_eq_some_iff.1 hi).1
  have := q i hn
  rwa [Addr.add_lit, hi] at this
theorem cells_spot {a : Addr} {n : Nat} {cs : List Value} (h : w.cells? base a n = some cs) (hn : 0 < n) : a.spot = none := by
  obtain ⟨_, hl, q⟩ := World.cells?_some h
  have h0 := q 0 hn
  rw [Addr.add_zero'] at h0
  obtain ⟨v, hv⟩ : ∃ v, cs[0]? = some v := by
    cases cs with
    | nil => simp at hl; omega
    | cons v l => exact ⟨v, rfl⟩
  exact World.cell?_spot (h0.trans hv)
/-- a list made of what each place has -/
theorem mk_list {α : Type} : ∀ (n : Nat) (P : Nat → α → Prop), (∀ i, i < n → ∃ x, P i x) → ∃ l : List α, l.length = n ∧ ∀ (i : Nat) (x : α), l[i]? = some x → P i x
  | 0, P, _ => ⟨[], rfl, fun i x h => by simp at h⟩
  | n + 1, P, h => by
    obtain ⟨x, hx⟩ := h 0 (by omega)
    obtain ⟨l, hl, hp⟩ := mk_list n (fun i => P (i + 1)) (fun i hi => h (i + 1) (by omega))
    refine ⟨x :: l, by simp [hl], fun i y hy => ?_⟩
    cases i with
    | zero =>
      simp only [List.getElem?_cons_zero, Option.some.injEq] at hy
      subst hy; exact hx
    | succ i => exact hp i y (by simpa using hy)
set_option maxRecDepth 100000 in
theorem open_brd {n : Nat} {c : Value} {x : DataW H × List MemPlace} (h : DataW.trod enc Tryz.prog w base spare held n 30 [c] = some x) : ∃ l, BRd c l w ∧ l.length ≤ maxLen := by
  rcases open_ints Tryz.underlying30 Tryz.underlying5 cellsB1 h with ⟨hc, _⟩ | ⟨a, len, cap, zs, hc, hb, hl, hm, hlen, hx, hcell, hwf⟩
  · obtain rfl : c = .slice none 0 0 := by simpa using hc
    exact ⟨[], ⟨none, 0, rfl, fun h => absurd rfl h⟩, Nat.zero_le _⟩
  · obtain rfl : c = .slice (some a) len cap := by simpa using hc
    have hz : len ≤ zs.length := by rw [hlen]; split <;> omega
    have hlz : ((zs.take len).map fun z => UInt8.ofNat z.toNat).length = len := by rw [List.length_map, List.length_take, Nat.min_eq_left hz]
    refine ⟨(zs.take len).map fun z => UInt8.ofNat z.toNat, ⟨some a, cap, by rw [hlz], fun hne => ?_⟩, by rw [hlz]; omega⟩
    have h0 : 0 < len := by
      rcases Nat.eq_zero_or_pos len with q | q
      · exact absurd (List.length_eq_zero_iff.1 (hlz.trans q)) hne
      · exact q
    have hlt := hcell 0 (by omega)
    obtain ⟨b, o, sp⟩ := a
    have hspot : sp = none := by simpa [Addr.add] using World.cell?_spot hlt
    subst hspot
    refine ⟨b, o, rfl, by rw [hlz]; exact hl, fun i y hy => ?_⟩
    have hi : i < len := by
      have := (List.getElem?_eq_some_iff.1 hy).1
      rwa [hlz] at this
    have hz2 : zs[i]? = some (zs.getD i 0) := by
      rw [List.getD_eq_getElem?_getD, List.getElem?_eq_getElem (by omega)]; rfl
    rw [List.getElem?_map, List.getElem?_take, if_pos hi, hz2] at hy
    simp only [Option.map_some, Option.some.injEq] at hy
    have hw := hwf _ (List.mem_of_getElem? hz2)
    have hb : 0 ≤ zs.getD i 0 ∧ zs.getD i 0 ≤ 255 := by simpa [Lit.wf, IntKind.min, IntKind.max, IntKind.signed, IntKind.bits] using hw
    have hq := hcell i (by omega)
    rw [Addr.add_lit] at hq
    rw [hq, ← hy, UInt8.toNat_ofNat']
    congr 2
    omega
theorem list2 {α : Type} {l : List α} (h : l.length = 2) : ∃ a b, l = [a, b] := by
  match l, h with
  | [a, b], _ => exact ⟨a, b, rfl⟩
theorem list4 {α : Type} {l : List α} (h : l.length = 4) : ∃ a b c d, l = [a, b, c, d] := by
  match l, h with
  | [a, b, c, d], _ => exact ⟨a, b, c, d, rfl⟩
theorem sV_of (s : ByteArray) : Value.string s = sV s.data.toList := by rw [sV, toList_mk]
set_option maxRecDepth 100000 in
theorem open_atr {n : Nat} {cs : List Value} {x : DataW H × List MemPlace} (h : DataW.trod enc Tryz.prog w base spare held n 120 cs = some x) : ∃ t : Atr, cs = [sV t.1, sV t.2] := by
  obtain ⟨xs, m, rfl, hx, hl, hlen, hel⟩ := DataW.trod_struct Tryz.underlying120 h
  rw [cellsB2] at hl
  obtain ⟨c0, c1, rfl⟩ := list2 hl
  obtain ⟨x0, x1, rfl⟩ := list2 (show xs.length = 2 from hlen)
  have e0 : DataW.trod enc Tryz.prog w base spare held m 9 (([c0, c1].drop 0).take (Tryz.prog.cellsOf 9)) = some x0 := hel 0 _ rfl
  have e1 : DataW.trod enc Tryz.prog w base spare held m 9 (([c0, c1].drop 1).take (Tryz.prog.cellsOf 9)) = some x1 := hel 1 _ rfl
  rw [cellsBs] at e0 e1
  obtain ⟨s0, q0, _, _⟩ := DataW.trod_string Tryz.underlying9 (show DataW.trod enc Tryz.prog w base spare held m 9 [c0] = some x0 from e0)
  obtain ⟨s1, q1, _, _⟩ := DataW.trod_string Tryz.underlying9 (show DataW.trod enc Tryz.prog w base spare held m 9 [c1] = some x1 from e1)
  cases q0; cases q1
  exact ⟨(s0.data.toList, s1.data.toList), by rw [sV_of, sV_of]⟩
set_option maxRecDepth 100000 in
theorem open_ats {n : Nat} {c : Value} {x : DataW H × List MemPlace} (h : DataW.trod enc Tryz.prog w base spare held n 41 [c] = some x) : ∃ al, AtRd c al w ∧ al.length ≤ maxLen := by
  rcases DataW.trod_slice Tryz.underlying41 h with ⟨hc, _⟩ | ⟨a, len, cap, elems, rest, m, _, hc, _, hb, hl, hm, hlen, hel, _, _⟩
  · obtain rfl : c = .slice none 0 0 := by simpa using hc
    exact ⟨[], ⟨none, 0, rfl, fun h => absurd rfl h⟩, Nat.zero_le _⟩
  · obtain rfl : c = .slice (some a) len cap := by simpa using hc
    rw [cellsB2] at hel
    have each : ∀ i, i < len → ∃ t : Atr, a.spot = none ∧ w.cell? ⟨a.block, a.off + i * 2, none⟩ = some (sV t.1) ∧ w.cell? ⟨a.block, a.off + i * 2 + 1, none⟩ = some (sV t.2) := by
      intro i hi
      have h1 := hel i hi
      rw [List.getElem?_eq_getElem (by omega), Option.bind_eq_some_iff] at h1
      obtain ⟨cs, hcs, ht⟩ := h1
      obtain ⟨t, rfl⟩ := open_atr ht
      have h2 := hel 0 (by omega)
      rw [List.getElem?_eq_getElem (by omega), Option.bind_eq_some_iff, Nat.zero_mul, Addr.add_zero'] at h2
      obtain ⟨cs0, hcs0, _⟩ := h2
      have hs := cells_spot hcs0 (by omega)
      obtain ⟨g, o, sp⟩ := a
      cases hs
      rw [Addr.add_lit] at hcs
      exact ⟨t, rfl, cells_at hcs (i := 0) rfl, cells_at hcs (i := 1) rfl⟩
    obtain ⟨al, hal, hp⟩ := mk_list len _ each
    refine ⟨al, ⟨some a, cap, by rw [hal], fun hne => ?_⟩, by omega⟩
    obtain ⟨t0, ht0⟩ : ∃ t, al[0]? = some t := by
      cases al with
      | nil => exact absurd rfl hne
      | cons t l => exact ⟨t, rfl⟩
    have hs := (hp 0 t0 ht0).1
    obtain ⟨g, o, sp⟩ := a
    cases hs
    exact ⟨g, o, rfl, by omega, fun i t ht => (hp i t ht).2⟩
set_option maxRecDepth 100000 in
theorem open_tk {n : Nat} {cs : List Value} {x : DataW H × List MemPlace} (h : DataW.trod enc Tryz.prog w base spare held n 43 cs = some x) : ∃ (t : Tk) (v : Value), cs = [iV t.1, sV t.2.1, sV t.2.2.1, v] ∧ AtRd v t.2.2.2 w ∧ t.2.2.2.length ≤ maxLen := by
  obtain ⟨xs, m, rfl, hx, hl, hlen, hel⟩ := DataW.trod_struct Tryz.underlying43 h
  rw [cellsB4] at hl
  obtain ⟨c0, c1, c2, c3, rfl⟩ := list4 hl
  obtain ⟨x0, x1, x2, x3, rfl⟩ := list4 (show xs.length = 4 from hlen)
  have e0 : DataW.trod enc Tryz.prog w base spare held m 3 (([c0, c1, c2, c3].drop 0).take (Tryz.prog.cellsOf 3)) = some x0 := hel 0 _ rfl
  have e1 : DataW.trod enc Tryz.prog w base spare held m 9 (([c0, c1, c2, c3].drop 1).take (Tryz.prog.cellsOf 9)) = some x1 := hel 1 _ rfl
  have e2 : DataW.trod enc Tryz.prog w base spare held m 9 (([c0, c1, c2, c3].drop 2).take (Tryz.prog.cellsOf 9)) = some x2 := hel 2 _ rfl
  have e3 : DataW.trod enc Tryz.prog w base spare held m 41 (([c0, c1, c2, c3].drop 3).take (Tryz.prog.cellsOf 41)) = some x3 := hel 3 _ rfl
  rw [cellsBs] at e1 e2
  rw [cellsBi] at e0
  rw [cellsBa] at e3
  obtain ⟨s0, q0, _, _⟩ := DataW.trod_int Tryz.underlying3 (show DataW.trod enc Tryz.prog w base spare held m 3 [c0] = some x0 from e0)
  obtain ⟨s1, q1, _, _⟩ := DataW.trod_string Tryz.underlying9 (show DataW.trod enc Tryz.prog w base spare held m 9 [c1] = some x1 from e1)
  obtain ⟨s2, q2, _, _⟩ := DataW.trod_string Tryz.underlying9 (show DataW.trod enc Tryz.prog w base spare held m 9 [c2] = some x2 from e2)
  obtain ⟨al, ha, hal⟩ := open_ats (show DataW.trod enc Tryz.prog w base spare held m 41 [c3] = some x3 from e3)
  cases q0; cases q1; cases q2
  exact ⟨(s0, s1.data.toList, s2.data.toList, al), c3, by rw [sV_of, sV_of], ha, hal⟩
set_option maxRecDepth 100000 in
theorem open_tks {n : Nat} {c : Value} {x : DataW H × List MemPlace} (h : DataW.trod enc Tryz.prog w base spare held n 44 [c] = some x) : ∃ l, TkRd c l w ∧ l.length ≤ maxLen := by
  rcases DataW.trod_slice Tryz.underlying44 h with ⟨hc, _⟩ | ⟨a, len, cap, elems, rest, m, _, hc, _, hb, hl, hm, hlen, hel, _, _⟩
  · obtain rfl : c = .slice none 0 0 := by simpa using hc
    exact ⟨[], ⟨none, 0, rfl, fun h => absurd rfl h⟩, Nat.zero_le _⟩
  · obtain rfl : c = .slice (some a) len cap := by simpa using hc
    rw [cellsB4] at hel
    have each : ∀ i, i < len → ∃ t : Tk, a.spot = none ∧ ∃ v, TkAt a.block (a.off + i * 4) t v w := by
      intro i hi
      have h1 := hel i hi
      rw [List.getElem?_eq_getElem (by omega), Option.bind_eq_some_iff] at h1
      obtain ⟨cs, hcs, ht⟩ := h1
      obtain ⟨t, v, rfl, hv, _⟩ := open_tk ht
      have h2 := hel 0 (by omega)
      rw [List.getElem?_eq_getElem (by omega), Option.bind_eq_some_iff, Nat.zero_mul, Addr.add_zero'] at h2
      obtain ⟨cs0, hcs0, _⟩ := h2
      have hs := cells_spot hcs0 (by omega)
      obtain ⟨g, o, sp⟩ := a
      cases hs
      rw [Addr.add_lit] at hcs
      exact ⟨t, rfl, v, cells_at hcs (i := 0) rfl, cells_at hcs (i := 1) rfl, cells_at hcs (i := 2) rfl, cells_at hcs (i := 3) rfl, hv⟩
    obtain ⟨al, hal, hp⟩ := mk_list len _ each
    refine ⟨al, ⟨some a, cap, by rw [hal], fun hne => ?_⟩, by omega⟩
    obtain ⟨t0, ht0⟩ : ∃ t, al[0]? = some t := by
      cases al with
      | nil => exact absurd rfl hne
      | cons t l => exact ⟨t, rfl⟩
    have hs := (hp 0 t0 ht0).1
    obtain ⟨g, o, sp⟩ := a
    cases hs
    exact ⟨g, o, rfl, by omega, fun i t ht => (hp i t ht).2⟩
set_option maxRecDepth 100000 in
theorem open_bytes8 {r : Reach} {b0 : Nat} {v : Value} {d : DataW H} {p : List MemPlace}
    (hval : Value.okWide Tryz.prog w r b0 30 v) (h : DataW.Trod enc Tryz.prog w base spare held 30 v d p) : ∃ l, BRd v l w ∧ l.length ≤ maxLen := by
  obtain ⟨ad, len, cap, rfl⟩ := okWide_slice Tryz.underlying30 hval
  obtain ⟨fuel, hf⟩ := h
  exact open_brd (show DataW.trod enc Tryz.prog w base spare held fuel 30 [Value.slice ad len cap] = some (d, p) from hf)
set_option maxRecDepth 100000 in
theorem open_toks8 {r : Reach} {b0 : Nat} {v : Value} {d : DataW H} {p : List MemPlace}
    (hval : Value.okWide Tryz.prog w r b0 44 v) (h : DataW.Trod enc Tryz.prog w base spare held 44 v d p) : ∃ l, TkRd v l w ∧ l.length ≤ maxLen := by
  obtain ⟨ad, len, cap, rfl⟩ := okWide_slice Tryz.underlying44 hval
  obtain ⟨fuel, hf⟩ := h
  exact open_tks (show DataW.trod enc Tryz.prog w base spare held fuel 44 [Value.slice ad len cap] = some (d, p) from hf)
/-- an argument reads behind the call as it did -/
theorem shut_bytes8 {W W' : World} {v : Value} {d : DataW H} {ps before : List MemPlace} (h : DataW.Trod enc Tryz.prog W 0 (fun _ => true) true 30 v d ps) (k : Kept W W') (hlt : ∀ x ∈ before, x.block < W.heap.size) (hsub : ∀ x ∈ ps, x ∈ before) {sp : Nat → Bool} (hsp : ∀ p ∈ before, sp p.block = true) :
    DataW.Trod enc Tryz.prog W' 0 sp true 30 v d ps :=
  WideElems.Trod_stays laidOutB8 (by kernel_rfl) (of_decide_eq_true (by kernel_rfl)) h (fun x hx => (k.below (Nat.le_refl _)).same (hlt x (hsub x hx))) (fun x hx => hsp x (hsub x hx))
theorem shut_toks8 {W W' : World} {v : Value} {d : DataW H} {ps before : List MemPlace} (h : DataW.Trod enc Tryz.prog W 0 (fun _ => true) true 44 v d ps) (k : Kept W W') (hlt : ∀ x ∈ before, x.block < W.heap.size) (hsub : ∀ x ∈ ps, x ∈ before) {sp : Nat → Bool} (hsp : ∀ p ∈ before, sp p.block = true) :
    DataW.Trod enc Tryz.prog W' 0 sp true 44 v d ps :=
  WideElems.Trod_stays laidOutB8 (by kernel_rfl) (of_decide_eq_true (by kernel_rfl)) h (fun x hx => (k.below (Nat.le_refl _)).same (hlt x (hsub x hx))) (fun x hx => hsp x (hsub x hx))
end Go.Proofs.YtflhmgnhjnaiiaaGreatDoor
