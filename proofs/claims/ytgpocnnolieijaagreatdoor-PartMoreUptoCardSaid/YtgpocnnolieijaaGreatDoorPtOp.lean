/- What the arguments of package part's laws read as; what the listed tables hold. -/
import Derived.Test.YtgpocnnolieijaaGreatDoorRows
import Derived.Test.YtgpocnnolieijaaGreatDoorMgI
import Derived.Test.YtgpocnnolieijaaGreatDoorMgL
import Derived.Test.YtgpocnnolieijaaGreatDoorPtWJ
import Derived.Lib.LaidTab
import Derived.Stop.LaidErr
set_option linter.unusedSimpArgs false
set_option linter.unusedVariables false
namespace Go.Proofs.YtgpocnnolieijaaGreatDoor.Pt
open Go.ChangeShapes Go.WideShapes Go.ChangeAt Go.RowKit
open Hd (SRd)
theorem bulk_pos {H : Type} (d : DataW H) : 1 ≤ Rows.uptoBulk d := by
  cases d with
  | lit x => cases x <;> simp [Rows.uptoBulk]
  | _ => simp [Rows.uptoBulk]
theorem bulk_part {H : Type} {d : DataW H} : ∀ {l : List (DataW H)}, d ∈ l → Rows.uptoBulk d ≤ Rows.uptoBulkAll l
  | [], h => by cases h
  | x :: l, h => by
    rw [Rows.uptoBulkAll]
    rcases List.mem_cons.1 h with rfl | h
    · omega
    · have := bulk_part h; omega
theorem bulk_len {H : Type} : ∀ (l : List (DataW H)), l.length ≤ Rows.uptoBulkAll l
  | [] => by simp
  | x :: l => by
    have := bulk_len l
    have := bulk_pos x
    rw [Rows.uptoBulkAll, List.length_cons]; omega
theorem bulk_elems {H : Type} (elems rest : List (DataW H)) : Rows.uptoBulkAll elems ≤ Rows.uptoBulk (.slice elems rest) := by
  rw [Rows.uptoBulk]; omega
variable {H : Type} {enc : TypeId × Value → H} {w : World} {base : Nat} {spare : Nat → Bool} {held : Bool}
theorem cellsL1 : Tryz.prog.cellsOf 26 = 1 := by kernel_rfl
theorem cap_of_ints {n : Nat} {a : Option Addr} {len cap : Nat} {x : DataW H × List MemPlace} (h : DataW.trod enc Tryz.prog w base spare held n 26 [.slice a len cap] = some x) : cap ≤ 9223372036854775807 ∧ len ≤ Rows.uptoBulk x.1 := by
  rcases open_ints Tryz.underlying26 Tryz.underlying5 cellsB1 h with ⟨hc, hx⟩ | ⟨a', len', cap', zs, hc, hb, hl, hm, hlen, hx, hcell, hwf⟩
  · obtain ⟨_, rfl, rfl⟩ : a = none ∧ len = 0 ∧ cap = 0 := by simpa using hc
    exact ⟨by omega, Nat.zero_le _⟩
  · obtain ⟨_, rfl, rfl⟩ : a = some a' ∧ len = len' ∧ cap = cap' := by simpa using hc
    refine ⟨by unfold maxLen at hm; omega, ?_⟩
    rw [hx]
    refine Nat.le_trans ?_ (bulk_elems _ _)
    refine Nat.le_trans ?_ (bulk_len _)
    have hz : len ≤ zs.length := by rw [hlen]; split <;> omega
    simp [lits]; omega
set_option maxRecDepth 100000 in
theorem open_bytesU {r : Reach} {b0 : Nat} {v : Value} {d : DataW H} {p : List MemPlace}
    (hval : Value.okWide Tryz.prog w r b0 26 v) (h : DataW.Trod enc Tryz.prog w base spare held 26 v d p) : ∃ l, BRd v l w ∧ l.length ≤ maxLen ∧ (∀ a n c, v = .slice a n c → c ≤ 9223372036854775807) ∧ l.length ≤ Rows.uptoBulk d := by
  obtain ⟨ad, len, cap, rfl⟩ := okWide_slice Tryz.underlying26 hval
  obtain ⟨fuel, hf⟩ := h
  have hf' : DataW.trod enc Tryz.prog w base spare held fuel 26 [Value.slice ad len cap] = some (d, p) := hf
  obtain ⟨l, hl, hm⟩ := open_brd hf'
  obtain ⟨hc, hb⟩ := cap_of_ints hf'
  obtain ⟨_, _, hv⟩ := hl.slice
  cases hv
  exact ⟨l, hl, hm, fun a n c e => by cases e; exact hc, hb⟩
set_option maxRecDepth 100000 in
theorem open_rowsU {r : Reach} {b0 : Nat} {v : Value} {d : DataW H} {p : List MemPlace}
    (hval : Value.okWide Tryz.prog w r b0 23 v) (h : DataW.Trod enc Tryz.prog w base spare held 23 v d p) : ∃ l : List B, LRd v l w ∧ l.length ≤ maxLen ∧ (∀ b ∈ l, b.length ≤ maxLen) ∧ (∀ b ∈ l, b.length ≤ Rows.uptoBulk d) ∧ l.length ≤ Rows.uptoBulk d := by
  obtain ⟨ad, len, cap, rfl⟩ := okWide_slice Tryz.underlying23 hval
  obtain ⟨fuel, hf⟩ := h
  have hf' : DataW.trod enc Tryz.prog w base spare held fuel 23 [Value.slice ad len cap] = some (d, p) := hf
  clear hf hval
  rcases DataW.trod_slice Tryz.underlying23 hf' with ⟨hc, hx⟩ | ⟨a, len', cap', elems, rest, m, _, hc, hx, hb, hl, hm, hlen, hel, _, _⟩
  · obtain ⟨rfl, rfl, rfl⟩ : ad = none ∧ len = 0 ∧ cap = 0 := by simpa using hc
    exact ⟨[], LRd.nil _, Nat.zero_le _, by simp, by simp, Nat.zero_le _⟩
  · obtain ⟨rfl, rfl, rfl⟩ : ad = some a ∧ len = len' ∧ cap = cap' := by simpa using hc
    rw [cellsL1] at hel
    have hd : d = .slice (elems.map (·.1)) (rest.map (·.1)) := congrArg Prod.fst hx
    have each : ∀ i, i < len → ∃ t : B, a.spot = none ∧ (∃ x, w.cell? ⟨a.block, a.off + i, none⟩ = some x ∧ BRd x t w) ∧ t.length ≤ maxLen ∧ t.length ≤ Rows.uptoBulk d := by
      intro i hi
      have h1 := hel i hi
      have hei : elems[i]? = some (elems[i]'(by omega)) := List.getElem?_eq_getElem (by omega)
      rw [hei, Option.bind_eq_some_iff, Nat.mul_one] at h1
      obtain ⟨cs, hcs, ht⟩ := h1
      obtain ⟨c, rfl⟩ : ∃ c, cs = [c] := by
        have := (World.cells?_some hcs).2.1
        match cs, this with
        | [c], _ => exact ⟨c, rfl⟩
      obtain ⟨t, hbr, htm⟩ := open_brd ht
      obtain ⟨xa, xc, rfl⟩ := hbr.slice
      have hbk := (cap_of_ints ht).2
      have h2 := hel 0 (by omega)
      rw [List.getElem?_eq_getElem (by omega), Option.bind_eq_some_iff, Nat.zero_mul, Addr.add_zero'] at h2
      obtain ⟨cs0, hcs0, _⟩ := h2
      have hs := cells_spot hcs0 (by omega)
      obtain ⟨g, o, sp⟩ := a
      cases hs
      rw [Addr.add_lit] at hcs
      refine ⟨t, rfl, ⟨_, cells_at hcs (i := 0) rfl, hbr⟩, htm, Nat.le_trans hbk ?_⟩
      rw [hd]
      refine Nat.le_trans (bulk_part ?_) (bulk_elems _ _)
      exact List.mem_map.2 ⟨_, List.mem_of_getElem? hei, rfl⟩
    obtain ⟨al, hal, hp⟩ := mk_list len _ each
    refine ⟨al, ⟨some a, cap, by rw [hal], fun e => (by cases e), fun hne => ?_⟩, by omega, fun x hx => ?_, fun x hx => ?_, ?_⟩
    · obtain ⟨t0, ht0⟩ : ∃ t, al[0]? = some t := by
        cases al with
        | nil => exact absurd rfl hne
        | cons t l => exact ⟨t, rfl⟩
      have hs := (hp 0 t0 ht0).1
      obtain ⟨g, o, sp⟩ := a
      cases hs
      exact ⟨g, o, rfl, by omega, fun i t ht => (hp i t ht).2.1⟩
    · obtain ⟨i, hi⟩ := List.getElem?_of_mem hx
      exact (hp i x hi).2.2.1
    · obtain ⟨i, hi⟩ := List.getElem?_of_mem hx
      exact (hp i x hi).2.2.2
    · rw [hd]
      refine Nat.le_trans ?_ (Nat.le_trans (bulk_len _) (bulk_elems _ _))
      simp; omega
set_option maxRecDepth 100000 in
theorem open_textsU {r : Reach} {b0 : Nat} {v : Value} {d : DataW H} {p : List MemPlace}
    (hval : Value.okWide Tryz.prog w r b0 22 v) (h : DataW.Trod enc Tryz.prog w base spare held 22 v d p) : ∃ l : List B, SRd v l w ∧ l.length ≤ maxLen ∧ (∀ s ∈ l, s.length ≤ maxLen) ∧ (∀ s ∈ l, s.length ≤ Rows.uptoBulk d) ∧ l.length ≤ Rows.uptoBulk d := by
  obtain ⟨ad, len, cap, rfl⟩ := okWide_slice Tryz.underlying22 hval
  obtain ⟨fuel, hf⟩ := h
  have hf' : DataW.trod enc Tryz.prog w base spare held fuel 22 [Value.slice ad len cap] = some (d, p) := hf
  clear hf hval
  rcases DataW.trod_slice Tryz.underlying22 hf' with ⟨hc, hx⟩ | ⟨a, len', cap', elems, rest, m, _, hc, hx, hb, hl, hm, hlen, hel, _, _⟩
  · obtain ⟨rfl, rfl, rfl⟩ : ad = none ∧ len = 0 ∧ cap = 0 := by simpa using hc
    exact ⟨[], ⟨none, 0, rfl, fun h => absurd rfl h⟩, Nat.zero_le _, by simp, by simp, Nat.zero_le _⟩
  · obtain ⟨rfl, rfl, rfl⟩ : ad = some a ∧ len = len' ∧ cap = cap' := by simpa using hc
    rw [cellsIs] at hel
    have hd : d = .slice (elems.map (·.1)) (rest.map (·.1)) := congrArg Prod.fst hx
    have each : ∀ i, i < len → ∃ t : B, a.spot = none ∧ w.cell? ⟨a.block, a.off + i, none⟩ = some (sV t) ∧ t.length ≤ maxLen ∧ t.length ≤ Rows.uptoBulk d := by
      intro i hi
      have h1 := hel i hi
      have hei : elems[i]? = some (elems[i]'(by omega)) := List.getElem?_eq_getElem (by omega)
      rw [hei, Option.bind_eq_some_iff, Nat.mul_one] at h1
      obtain ⟨cs, hcs, ht⟩ := h1
      obtain ⟨s, rfl, hxs, hz⟩ := DataW.trod_string Tryz.underlying9 ht
      have h2 := hel 0 (by omega)
      rw [List.getElem?_eq_getElem (by omega), Option.bind_eq_some_iff, Nat.zero_mul, Addr.add_zero'] at h2
      obtain ⟨cs0, hcs0, _⟩ := h2
      have hs := cells_spot hcs0 (by omega)
      obtain ⟨g, o, sp⟩ := a
      cases hs
      rw [Addr.add_lit] at hcs
      have hsl : s.data.toList.length = s.size := by rw [Array.length_toList]; rfl
      refine ⟨s.data.toList, rfl, by rw [sV, toList_mk]; exact cells_at hcs (i := 0) rfl, by rw [hsl]; exact hz, ?_⟩
      rw [hd]
      refine Nat.le_trans ?_ (Nat.le_trans (bulk_part (List.mem_map.2 ⟨_, List.mem_of_getElem? hei, rfl⟩)) (bulk_elems _ _))
      rw [hxs, Rows.uptoBulk]; omega
    obtain ⟨al, hal, hp⟩ := mk_list len _ each
    refine ⟨al, ⟨some a, cap, by rw [hal], fun hne => ?_⟩, by omega, fun x hx => ?_, fun x hx => ?_, ?_⟩
    · obtain ⟨t0, ht0⟩ : ∃ t, al[0]? = some t := by
        cases al with
        | nil => exact absurd rfl hne
        | cons t l => exact ⟨t, rfl⟩
      have hs := (hp 0 t0 ht0).1
      obtain ⟨g, o, sp⟩ := a
      cases hs
      exact ⟨g, o, rfl, by omega, fun i t ht => (hp i t ht).2.1⟩
    · obtain ⟨i, hi⟩ := List.getElem?_of_mem hx
      exact (hp i x hi).2.2.1
    · obtain ⟨i, hi⟩ := List.getElem?_of_mem hx
      exact (hp i x hi).2.2.2
    · rw [hd]
      refine Nat.le_trans ?_ (Nat.le_trans (bulk_len _) (bulk_elems _ _))
      simp; omega
set_option maxRecDepth 100000 in
theorem open_str {r : Reach} {b0 : Nat} {v : Value} {d : DataW H} {p : List MemPlace}
    (hval : Value.okWide Tryz.prog w r b0 9 v) (h : DataW.Trod enc Tryz.prog w base spare held 9 v d p) :
    ∃ l : List UInt8, v = .string ⟨l.toArray⟩ ∧ d = .lit (.string l) ∧ p = [] ∧ l.length ≤ maxLen := by
  obtain ⟨s, rfl, rfl, rfl, z⟩ := Go.ChangeMaps.open_string Tryz.underlying9 hval h
  exact ⟨s.data.toList, by rw [toList_mk], rfl, rfl, by rw [Array.length_toList]; exact z⟩
set_option maxRecDepth 100000 in
theorem shut_str {l : List UInt8} (z : l.length ≤ maxLen) :
    DataW.Trod enc Tryz.prog w base spare held 9 (.string ⟨l.toArray⟩) (.lit (.string l)) [] := by
  have := Go.ChangeMaps.shut_string (enc := enc) (w := w) (base := base) (sp := spare) (held := held) (s := ⟨l.toArray⟩) Tryz.underlying9 z
  simpa using this
set_option maxRecDepth 100000 in
theorem shut_bytesU {W W' : World} {v : Value} {d : DataW H} {ps before : List MemPlace} (h : DataW.Trod enc Tryz.prog W 0 (fun _ => true) true 26 v d ps) (k : Kept W W') (hlt : ∀ x ∈ before, x.block < W.heap.size) (hsub : ∀ x ∈ ps, x ∈ before) {sp : Nat → Bool} (hsp : ∀ p ∈ before, sp p.block = true) :
    DataW.Trod enc Tryz.prog W' 0 sp true 26 v d ps :=
  WideElems.Trod_stays laidOutB8 (by kernel_rfl) (of_decide_eq_true (by kernel_rfl)) h (fun x hx => (k.below (Nat.le_refl _)).same (hlt x (hsub x hx))) (fun x hx => hsp x (hsub x hx))
set_option maxRecDepth 100000 in
theorem shut_rowsU {W W' : World} {v : Value} {d : DataW H} {ps before : List MemPlace} (h : DataW.Trod enc Tryz.prog W 0 (fun _ => true) true 23 v d ps) (k : Kept W W') (hlt : ∀ x ∈ before, x.block < W.heap.size) (hsub : ∀ x ∈ ps, x ∈ before) {sp : Nat → Bool} (hsp : ∀ p ∈ before, sp p.block = true) :
    DataW.Trod enc Tryz.prog W' 0 sp true 23 v d ps :=
  WideElems.Trod_stays laidOutB8 (by kernel_rfl) (of_decide_eq_true (by kernel_rfl)) h (fun x hx => (k.below (Nat.le_refl _)).same (hlt x (hsub x hx))) (fun x hx => hsp x (hsub x hx))
set_option maxRecDepth 100000 in
theorem shut_textsU {W W' : World} {v : Value} {d : DataW H} {ps before : List MemPlace} (h : DataW.Trod enc Tryz.prog W 0 (fun _ => true) true 22 v d ps) (k : Kept W W') (hlt : ∀ x ∈ before, x.block < W.heap.size) (hsub : ∀ x ∈ ps, x ∈ before) {sp : Nat → Bool} (hsp : ∀ p ∈ before, sp p.block = true) :
    DataW.Trod enc Tryz.prog W' 0 sp true 22 v d ps :=
  WideElems.Trod_stays laidOutB8 (by kernel_rfl) (of_decide_eq_true (by kernel_rfl)) h (fun x hx => (k.below (Nat.le_refl _)).same (hlt x (hsub x hx))) (fun x hx => hsp x (hsub x hx))
theorem gPow : Tryz.prog.globalNamed "internal/strconv.uint64pow10" = some 1 := by kernel_rfl
theorem tPow : (Tryz.prog.globals[1]?).map (·.type) = some 116 := by kernel_rfl
theorem tab_of {W : World} {x0 x1 : String × DataW Unit} {rest : List (String × DataW Unit)} (h : laidMet Tryz.prog (x0 :: x1 :: ("internal/strconv.uint64pow10", Rows.laid_internal_strconv_uint64pow10) :: rest) W) : Tab W :=
  Lib.tabIs_of_head (rest := rest) gPow tPow Tryz.underlying116 Tryz.underlying95 (by kernel_rfl) (by kernel_rfl) (laidMet.tail (laidMet.tail h))
end Go.Proofs.YtgpocnnolieijaaGreatDoor.Pt
