import Derived.Test.YtjlpkgipdkjfhaaGreatDoorRows
import Derived.Test.YtjlpkgipdkjfhaaGreatDoorKept
import Derived.OpenShut
import Derived.ChangeMaps5
import Derived.Test.YtjlpkgipdkjfhaaGreatDoorEc
import Derived.Test.YtjlpkgipdkjfhaaGreatDoorDa
import Derived.Test.YtjlpkgipdkjfhaaGreatDoorDgI
import Derived.Lib.LaidTab
import Derived.Stop.LaidErr
import Derived.Handed
import Derived.ChangeSame
import Derived.Carry
import Derived.ChangeSlices
set_option linter.unusedVariables false
set_option linter.unusedSimpArgs false
namespace Go.Proofs.YtjlpkgipdkjfhaaGreatDoor
open Go.ChangeShapes Go.WideShapes Go.ChangeAt Go.RowKit
theorem i64_bd {n : Int} (h : (Lit.int .i64 n).wf = true) : -9223372036854775808 ≤ n ∧ n ≤ 9223372036854775807 := by
  simpa [Lit.wf, IntKind.min, IntKind.max, IntKind.signed, IntKind.bits] using h
theorem toList_mk (s : ByteArray) : ⟨s.data.toList.toArray⟩ = s := by simp
set_option maxRecDepth 100000 in
theorem open_str {H : Type} {enc : TypeId × Value → H} {w : World} {base : Nat} {spare : Nat → Bool} {held : Bool} {r : Reach} {b0 : Nat} {v : Value} {d : DataW H} {p : List MemPlace}
    (hval : Value.okWide Tryz.prog w r b0 9 v) (h : DataW.Trod enc Tryz.prog w base spare held 9 v d p) :
    ∃ l : List UInt8, v = .string ⟨l.toArray⟩ ∧ d = .lit (.string l) ∧ p = [] ∧ l.length ≤ maxLen := by
  obtain ⟨s, rfl, rfl, rfl, z⟩ := Go.ChangeMaps.open_string Tryz.underlying9 hval h
  exact ⟨s.data.toList, by rw [toList_mk], rfl, rfl, by simpa using z⟩
set_option maxRecDepth 100000 in
theorem shut_str {H : Type} {enc : TypeId × Value → H} {w : World} {base : Nat} {spare : Nat → Bool} {held : Bool} {l : List UInt8} (z : l.length ≤ maxLen) :
    DataW.Trod enc Tryz.prog w base spare held 9 (.string ⟨l.toArray⟩) (.lit (.string l)) [] := by
  have := Go.ChangeMaps.shut_string (enc := enc) (w := w) (base := base) (sp := spare) (held := held) (s := ⟨l.toArray⟩) Tryz.underlying9 z
  simpa using this
end Go.Proofs.YtjlpkgipdkjfhaaGreatDoor
namespace Go.Proofs.YtjlpkgipdkjfhaaGreatDoor.Bk.Dg
open Go.ChangeShapes Go.WideShapes Go.ChangeAt Go.RowKit
open Go.Proofs.YtjlpkgipdkjfhaaGreatDoor.Dg
theorem gPow : Tryz.prog.globalNamed "internal/strconv.uint64pow10" = some 1 := by kernel_rfl
theorem tPow : (Tryz.prog.globals[1]?).map (·.type) = some 206 := by kernel_rfl
theorem errTyR : (Tryz.prog.globals[3]?).map (·.type) = some 99 := by kernel_rfl
theorem ex_of {W : World} (h : laidMet Tryz.prog laid7 W) (hs : W.ShapedOpen Tryz.prog) : EX W := by
  refine ⟨envp_of h hs, ?_, ?_⟩
  · exact Lib.tabIs_of_head gPow tPow Tryz.underlying206 Tryz.underlying161 (by kernel_rfl) (by kernel_rfl) (laidMet.tail (laidMet.tail h))
  · have h4 := laidMet.tail (laidMet.tail (laidMet.tail (laidMet.tail h)))
    obtain ⟨a, s, hv, _⟩ := laid_sentinel h4 (g := 3) (by kernel_rfl) errTyR Tryz.underlying99 rowE Tryz.underlying227 Tryz.underlying229 rfl rfl Tryz.underlying9 (by kernel_rfl) (by kernel_rfl)
    have h0 := World.var?_cell (g := 3) (by kernel_rfl) hv 0
    exact ⟨_, h0, Or.inr ⟨_, _, rfl⟩⟩
def wt (x : It) : Nat := 8 + x.title.length + x.link.length + x.text.length
def wts : List It → Nat
  | [] => 0
  | x :: l => wt x + wts l
theorem wts_size : ∀ l : List It, size l + 8 * l.length = wts l
  | [] => rfl
  | x :: l => by
    have := wts_size l
    rw [size, wts, wt, List.length_cons]; omega
theorem wts_bulk {H : Type} : ∀ (l : List It) (ds : List (DataW H)), l.length = ds.length → (∀ (i : Nat) (x : It) (d : DataW H), l[i]? = some x → ds[i]? = some d → wt x ≤ Rows.uptoBulk d) → wts l ≤ Rows.uptoBulkAll ds
  | [], _, _, _ => Nat.zero_le _
  | x :: l, [], h, _ => by simp at h
  | x :: l, d :: ds, h, hp => by
    have h1 := hp 0 x d rfl rfl
    have h2 := wts_bulk l ds (by simpa using h) (fun i y e hy he => hp (i + 1) y e (by simpa using hy) (by simpa using he))
    rw [wts, Rows.uptoBulkAll]; omega
theorem sm_of {l : List It} (h : wts l ≤ 1048576) : Sm l := by
  have h1 := wts_size l
  have h2 := txt_len l
  have h3 := htm_len l
  refine ⟨fun x hx => ?_, by omega, by omega, by omega⟩
  obtain ⟨i, hi⟩ := List.getElem?_of_mem hx
  have := size_take hi
  omega
section
variable {H : Type} {enc : TypeId × Value → H} {w : World} {base : Nat} {spare : Nat → Bool} {held : Bool}
theorem cellsIs : Tryz.prog.cellsOf 9 = 1 := by kernel_rfl
theorem cellsIi : Tryz.prog.cellsOf 3 = 1 := by kernel_rfl
theorem cellsI5 : Tryz.prog.cellsOf 48 = 5 := by kernel_rfl
theorem cellsI7 : Tryz.prog.cellsOf 50 = 7 := by kernel_rfl
theorem list3 {α : Type} {l : List α} (h : l.length = 3) : ∃ a b c, l = [a, b, c] := by
  match l, h with
  | [a, b, c], _ => exact ⟨a, b, c, rfl⟩
theorem list5 {α : Type} {l : List α} (h : l.length = 5) : ∃ a b c d e, l = [a, b, c, d, e] := by
  match l, h with
  | [a, b, c, d, e], _ => exact ⟨a, b, c, d, e, rfl⟩
theorem list7 {α : Type} {l : List α} (h : l.length = 7) : ∃ a b c d e f g, l = [a, b, c, d, e, f, g] := by
  match l, h with
  | [a, b, c, d, e, f, g], _ => exact ⟨a, b, c, d, e, f, g, rfl⟩
theorem laidOutB8 : laidOutB Tryz.prog = true := by kernel_rfl
theorem cells_at {g o n : Nat} {cs : List Value} (h : w.cells? base ⟨g, o, none⟩ n = some cs) {i : Nat} {v : Value} (hi : cs[i]? = some v) : w.cell? ⟨g, o + i, none⟩ = some v := by
  obtain ⟨_, hl, q⟩ := World.cells?_some h
  have hn : i < n := by rw [← hl]; exact (List.getElem?_eq_some_iff.1 hi).1
  have := q i hn
  rwa [Addr.add_lit, hi] at this
theorem cells_spot {a : Addr} {n : Nat} {cs : List Value} (h : w.cells? base a n = some cs) (hn : 0 < n) : a.spot = none := by
  obtain ⟨_, hl, q⟩ := World.cells?_some h
  have h0 := q 0 hn
  rw [Addr.add_zero'] at h0
  obtain ⟨v, hv⟩ : ∃ v, cs[0]? = some v := by
    cases cs with
    | nil => simp at hl; omega
    | cons v l => exact ⟨v, rfl⟩
  exact World.cell?_spot (h0.trans hv)
theorem mk_list {α : Type} : ∀ (n : Nat) (P : Nat → α → Prop), (∀ i, i < n → ∃ x, P i x) → ∃ l : List α, l.length = n ∧ ∀ (i : Nat) (x : α), l[i]? = some x → P i x
  | 0, P, _ => ⟨[], rfl, fun i x h => by simp at h⟩
  | n + 1, P, h => by
    obtain ⟨x, hx⟩ := h 0 (by omega)
    obtain ⟨l, hl, hp⟩ := mk_list n (fun i => P (i + 1)) (fun i hi => h (i + 1) (by omega))
    refine ⟨x :: l, by simp [hl], fun i y hy => ?_⟩
    cases i with
    | zero =>
      simp only [List.getElem?_cons_zero, Option.some.injEq] at hy
      subst hy; exact hx
    | succ i => exact hp i y (by simpa using hy)
abbrev bd4 (a b c d : B) : Prop := a.length ≤ 9223372036854775807 ∧ b.length ≤ 9223372036854775807 ∧ c.length ≤ 9223372036854775807 ∧ d.length ≤ 9223372036854775807
set_option maxRecDepth 100000 in
theorem open_ent5 {n : Nat} {cs : List Value} {x : DataW H × List MemPlace} (h : DataW.trod enc Tryz.prog w base spare held n 48 cs = some x) :
    ∃ (a b c d : B) (e : Int), cs = [sV a, sV b, sV c, sV d, iV e] ∧ bd4 a b c d ∧ 6 + b.length + c.length + d.length ≤ Rows.uptoBulk x.1 := by
  obtain ⟨xs, m, rfl, hx, hl, hlen, hel⟩ := DataW.trod_struct Tryz.underlying48 h
  rw [cellsI5] at hl
  obtain ⟨c0, c1, c2, c3, c4, rfl⟩ := list5 hl
  obtain ⟨x0, x1, x2, x3, x4, rfl⟩ := list5 (show xs.length = 5 from hlen)
  have e0 : DataW.trod enc Tryz.prog w base spare held m 9 (([c0, c1, c2, c3, c4].drop 0).take (Tryz.prog.cellsOf 9)) = some x0 := hel 0 _ rfl
  have e1 : DataW.trod enc Tryz.prog w base spare held m 9 (([c0, c1, c2, c3, c4].drop 1).take (Tryz.prog.cellsOf 9)) = some x1 := hel 1 _ rfl
  have e2 : DataW.trod enc Tryz.prog w base spare held m 9 (([c0, c1, c2, c3, c4].drop 2).take (Tryz.prog.cellsOf 9)) = some x2 := hel 2 _ rfl
  have e3 : DataW.trod enc Tryz.prog w base spare held m 9 (([c0, c1, c2, c3, c4].drop 3).take (Tryz.prog.cellsOf 9)) = some x3 := hel 3 _ rfl
  have e4 : DataW.trod enc Tryz.prog w base spare held m 3 (([c0, c1, c2, c3, c4].drop 4).take (Tryz.prog.cellsOf 3)) = some x4 := hel 4 _ rfl
  rw [cellsIs] at e0 e1 e2 e3
  rw [cellsIi] at e4
  obtain ⟨s0, q0, y0, z0⟩ := DataW.trod_string Tryz.underlying9 (show DataW.trod enc Tryz.prog w base spare held m 9 [c0] = some x0 from e0)
  obtain ⟨s1, q1, y1, z1⟩ := DataW.trod_string Tryz.underlying9 (show DataW.trod enc Tryz.prog w base spare held m 9 [c1] = some x1 from e1)
  obtain ⟨s2, q2, y2, z2⟩ := DataW.trod_string Tryz.underlying9 (show DataW.trod enc Tryz.prog w base spare held m 9 [c2] = some x2 from e2)
  obtain ⟨s3, q3, y3, z3⟩ := DataW.trod_string Tryz.underlying9 (show DataW.trod enc Tryz.prog w base spare held m 9 [c3] = some x3 from e3)
  obtain ⟨n4, q4, y4, _⟩ := DataW.trod_int Tryz.underlying3 (show DataW.trod enc Tryz.prog w base spare held m 3 [c4] = some x4 from e4)
  cases q0; cases q1; cases q2; cases q3; cases q4
  have hz : ∀ s : ByteArray, s.data.toList.length = s.size := fun s => by rw [Array.length_toList]; rfl
  unfold maxLen at z0 z1 z2 z3
  refine ⟨s0.data.toList, s1.data.toList, s2.data.toList, s3.data.toList, n4, by simp only [toList_mk, sV], ⟨by rw [hz]; exact z0, by rw [hz]; exact z1, by rw [hz]; exact z2, by rw [hz]; exact z3⟩, ?_⟩
  rw [hx]
  simp only [List.map_cons, List.map_nil, Rows.uptoBulk, Rows.uptoBulkAll, y0, y1, y2, y3, y4]
  omega
set_option maxRecDepth 100000 in
theorem open_it7 {n : Nat} {cs : List Value} {x : DataW H × List MemPlace} (h : DataW.trod enc Tryz.prog w base spare held n 50 cs = some x) :
    ∃ e : It, cs = [iV e.feed, iV e.seq, sV e.id, sV e.title, sV e.link, sV e.text, iV e.at'] ∧ bd4 e.id e.title e.link e.text ∧ wt e ≤ Rows.uptoBulk x.1 := by
  obtain ⟨xs, m, rfl, hx, hl, hlen, hel⟩ := DataW.trod_struct Tryz.underlying50 h
  rw [cellsI7] at hl
  obtain ⟨c0, c1, c2, c3, c4, c5, c6, rfl⟩ := list7 hl
  obtain ⟨x0, x1, x2, rfl⟩ := list3 (show xs.length = 3 from hlen)
  have e0 : DataW.trod enc Tryz.prog w base spare held m 3 (([c0, c1, c2, c3, c4, c5, c6].drop 0).take (Tryz.prog.cellsOf 3)) = some x0 := hel 0 _ rfl
  have e1 : DataW.trod enc Tryz.prog w base spare held m 3 (([c0, c1, c2, c3, c4, c5, c6].drop 1).take (Tryz.prog.cellsOf 3)) = some x1 := hel 1 _ rfl
  have e2 : DataW.trod enc Tryz.prog w base spare held m 48 (([c0, c1, c2, c3, c4, c5, c6].drop 2).take (Tryz.prog.cellsOf 48)) = some x2 := hel 2 _ rfl
  rw [cellsIi] at e0 e1
  rw [cellsI5] at e2
  obtain ⟨n0, q0, y0, _⟩ := DataW.trod_int Tryz.underlying3 (show DataW.trod enc Tryz.prog w base spare held m 3 [c0] = some x0 from e0)
  obtain ⟨n1, q1, y1, _⟩ := DataW.trod_int Tryz.underlying3 (show DataW.trod enc Tryz.prog w base spare held m 3 [c1] = some x1 from e1)
  obtain ⟨a, b, c, d, e, q2, hb, hw⟩ := open_ent5 (show DataW.trod enc Tryz.prog w base spare held m 48 [c2, c3, c4, c5, c6] = some x2 from e2)
  cases q0; cases q1; cases q2
  refine ⟨⟨n0, n1, a, b, c, d, e⟩, rfl, hb, ?_⟩
  rw [hx]
  simp only [List.map_cons, List.map_nil, Rows.uptoBulk, Rows.uptoBulkAll, y0, y1, wt]
  omega
set_option maxRecDepth 100000 in
theorem open_itemsU {r : Reach} {b0 : Nat} {v : Value} {d : DataW H} {p : List MemPlace}
    (hval : Value.okWide Tryz.prog w r b0 22 v) (h : DataW.Trod enc Tryz.prog w base spare held 22 v d p) : ∃ l : List It, ItA v l w ∧ wts l ≤ Rows.uptoBulk d := by
  obtain ⟨ad, len, cap, rfl⟩ := okWide_slice Tryz.underlying22 hval
  obtain ⟨fuel, hf⟩ := h
  have hf' : DataW.trod enc Tryz.prog w base spare held fuel 22 [Value.slice ad len cap] = some (d, p) := hf
  clear hf hval
  rcases DataW.trod_slice Tryz.underlying22 hf' with ⟨hc, hx⟩ | ⟨a, len', cap', elems, rest, m, _, hc, hx, hb, hl, hm, hlen, hel, _, _⟩
  · obtain ⟨rfl, rfl, rfl⟩ : ad = none ∧ len = 0 ∧ cap = 0 := by simpa using hc
    exact ⟨[], ⟨ItRd.nil _, Nat.zero_le _, fun x hx => by simp at hx⟩, Nat.zero_le _⟩
  · obtain ⟨rfl, rfl, rfl⟩ : ad = some a ∧ len = len' ∧ cap = cap' := by simpa using hc
    rw [cellsI7] at hel
    have hd : d = .slice (elems.map (·.1)) (rest.map (·.1)) := congrArg Prod.fst hx
    have each : ∀ i, i < len → ∃ t : It, a.spot = none ∧ ItAt a.block (a.off + i * 7) t w ∧ bd4 t.id t.title t.link t.text ∧ ∀ e, elems[i]? = some e → wt t ≤ Rows.uptoBulk e.1 := by
      intro i hi
      have h1 := hel i hi
      have hei : elems[i]? = some (elems[i]'(by omega)) := List.getElem?_eq_getElem (by omega)
      rw [hei, Option.bind_eq_some_iff] at h1
      obtain ⟨cs, hcs, ht⟩ := h1
      obtain ⟨t, rfl, hb4, hwt⟩ := open_it7 ht
      have h2 := hel 0 (by omega)
      rw [List.getElem?_eq_getElem (by omega), Option.bind_eq_some_iff, Nat.zero_mul, Addr.add_zero'] at h2
      obtain ⟨cs0, hcs0, _⟩ := h2
      have hs := cells_spot hcs0 (by omega)
      obtain ⟨g, o, sp⟩ := a
      cases hs
      rw [Addr.add_lit] at hcs
      refine ⟨t, rfl, ⟨cells_at hcs (i := 0) rfl, cells_at hcs (i := 1) rfl, cells_at hcs (i := 2) rfl, cells_at hcs (i := 3) rfl, cells_at hcs (i := 4) rfl, cells_at hcs (i := 5) rfl, cells_at hcs (i := 6) rfl⟩, hb4, fun e he => ?_⟩
      rw [hei] at he
      cases he
      exact hwt
    obtain ⟨al, hal, hp⟩ := mk_list len _ each
    have hel2 : elems.length = len := by omega
    unfold maxLen at hm
    refine ⟨al, ⟨⟨some a, cap, by rw [hal], fun hne => ?_⟩, by omega, fun x hx => ?_⟩, ?_⟩
    · obtain ⟨t0, ht0⟩ : ∃ t, al[0]? = some t := by
        cases al with
        | nil => exact absurd rfl hne
        | cons t l => exact ⟨t, rfl⟩
      have hs := (hp 0 t0 ht0).1
      obtain ⟨g, o, sp⟩ := a
      cases hs
      exact ⟨g, o, rfl, by omega, fun i t ht => (hp i t ht).2.1⟩
    · obtain ⟨i, hi⟩ := List.getElem?_of_mem hx
      exact (hp i x hi).2.2.1
    · rw [hd, Rows.uptoBulk]
      have := wts_bulk al (elems.map (·.1)) (by rw [List.length_map]; omega) (fun i x e hx he => by
        rw [List.getElem?_map] at he
        cases hq : elems[i]? with
        | none => rw [hq] at he; cases he
        | some q =>
          rw [hq] at he
          cases he
          exact (hp i x hx).2.2.2 q hq)
      omega
theorem shut_itemsU {W W' : World} {v : Value} {d : DataW H} {ps before : List MemPlace} (h : DataW.Trod enc Tryz.prog W 0 (fun _ => true) true 22 v d ps) (k : Kept W W') (hlt : ∀ x ∈ before, x.block < W.heap.size) (hsub : ∀ x ∈ ps, x ∈ before) {sp : Nat → Bool} (hsp : ∀ p ∈ before, sp p.block = true) :
    DataW.Trod enc Tryz.prog W' 0 sp true 22 v d ps :=
  WideElems.Trod_stays laidOutB8 (by kernel_rfl) (of_decide_eq_true (by kernel_rfl)) h (fun x hx => (k.below (Nat.le_refl _)).same (hlt x (hsub x hx))) (fun x hx => hsp x (hsub x hx))
end
end Go.Proofs.YtjlpkgipdkjfhaaGreatDoor.Bk.Dg
