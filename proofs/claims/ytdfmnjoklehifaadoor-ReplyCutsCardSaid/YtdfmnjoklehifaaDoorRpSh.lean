/- The library's calls, as package reply makes them; small functions. -/
import Derived.Test.YtdfmnjoklehifaaDoorRpB
import Derived.Test.YtdfmnjoklehifaaDoorRpIx
import Derived.Test.YtdfmnjoklehifaaDoorShelf
import Derived.Lib.Split
import Derived.Lib.IndexMore
set_option linter.unusedSimpArgs false
set_option linter.unusedVariables false
namespace Go.Proofs.YtdfmnjoklehifaaDoor.Bk.Rp
open Go.ChangeShapes Go.WideShapes Go.ChangeAt Go.RowKit Go.Shelf
/-! plain: the library's words -/
theorem idx_one (c : UInt8) (r : B) : ∀ x : B, c ∉ x → Lib.index (x ++ c :: r) [c] = x.length
  | [], _ => by simp [Lib.index]
  | b :: x, h => by
    have hb : b ≠ c := fun e => h (by simp [e])
    have ih := idx_one c r x (fun q => h (by simp [q]))
    rw [List.cons_append, Lib.index]
    simp only [List.isPrefixOf, Bool.and_true, ih, List.length_cons]
    rw [if_neg (by simpa using fun e => hb e.symm)]
    rw [if_neg (by first | (simp; done) | (simp; omega))]
    omega
theorem idx_no (c : UInt8) : ∀ x : B, c ∉ x → Lib.index x [c] = -1
  | [], _ => by simp [Lib.index]
  | b :: x, h => by
    have hb : b ≠ c := fun e => h (by simp [e])
    have ih := idx_no c x (fun q => h (by simp [q]))
    rw [Lib.index]
    simp only [List.isPrefixOf, Bool.and_true, ih]
    rw [if_neg (by simpa using fun e => hb e.symm)]
    rfl
theorem cut_hit (c : UInt8) (r x : B) (h : c ∉ x) : Lib.cut (x ++ c :: r) [c] = (x, r, true) := by
  unfold Lib.cut
  rw [idx_one c r x h, if_pos (by omega)]
  simp
theorem cut_miss (c : UInt8) (x : B) (h : c ∉ x) : Lib.cut x [c] = (x, [], false) := by
  unfold Lib.cut
  rw [idx_no c x h, if_neg (by decide)]
theorem cut_bef (s : B) : (Lib.cut s [32]).1 = bef s := by
  rcases cut_cases 32 s with h | ⟨p, r, rfl, h⟩
  · rw [cut_miss 32 s h, bef_no h]
  · rw [cut_hit 32 r p h, bef_hit h]
theorem contains_13 : ∀ s : B, Lib.contains s [13] = decide ((13 : UInt8) ∈ s) := fun s => by
  unfold Lib.contains
  rcases cut_cases 13 s with h | ⟨p, r, rfl, h⟩
  · rw [idx_no 13 s h]; simp [h]
  · rw [idx_one 13 r p h]; simp
theorem suf_13 (s : B) : Lib.hasSuffix s [13] = decide (s.getLast? = some 13) := by
  unfold Lib.hasSuffix
  rw [Bool.eq_iff_iff, List.isSuffixOf_iff_suffix, decide_eq_true_eq]
  constructor
  · rintro ⟨t, rfl⟩; simp
  · intro h
    obtain ⟨ys, rfl⟩ := List.getLast?_eq_some_iff.1 h
    exact ⟨ys, rfl⟩
theorem trim_13 (s : B) : Lib.trimSuffix s [13] = if s.getLast? = some 13 then s.dropLast else s := by
  unfold Lib.trimSuffix
  rw [suf_13]
  simp only [decide_eq_true_eq]
  split
  · rw [List.dropLast_eq_take]; rfl
  · rfl
/-! what the code of package reply asks of a world -/
structure EX (w : World) : Prop where
  ml : ∃ m, w.cell? ⟨1, 0, none⟩ = some (.int .i64 m)
  tab : Lib.TabIs Tryd.prog w "internal/strconv.uint64pow10" .u64 Lib.pow10Tab
  es : ∃ ev, w.cell? ⟨2, 0, none⟩ = some ev ∧ (ev = .nilIface ∨ ∃ te pe, ev = .iface te pe)
  er : ∃ ev, w.cell? ⟨3, 0, none⟩ = some ev ∧ (ev = .nilIface ∨ ∃ te pe, ev = .iface te pe)
  b0 : 8 ≤ w.heap.size
theorem EX.kept {w w' : World} (h : EX w) (k : Kept w w') : EX w' := by
  obtain ⟨m, hm⟩ := h.ml
  obtain ⟨e1, h1, q1⟩ := h.es
  obtain ⟨e2, h2, q2⟩ := h.er
  exact ⟨⟨m, k.yes hm⟩, k.tab h.tab, ⟨e1, k.yes h1, q1⟩, ⟨e2, k.yes h2, q2⟩, Nat.le_trans h.b0 k.size⟩
theorem gPow : Tryd.prog.globalNamed "internal/strconv.uint64pow10" = some 0 := by kernel_rfl
theorem EX.bo {D b : Nat} {w w' : World} (h : EX w) (k : Bo D b w w') (h1 : 8 ≤ b) (h2 : 8 ≤ D) : EX w' := by
  obtain ⟨m, hm⟩ := h.ml
  obtain ⟨e1, q1, r1⟩ := h.es
  obtain ⟨e2, q2, r2⟩ := h.er
  refine ⟨⟨m, k.yes hm (by show 1 < D; omega) (by show 1 ≠ b; omega)⟩, ?_, ⟨e1, k.yes q1 (by show 2 < D; omega) (by show 2 ≠ b; omega), r1⟩, ⟨e2, k.yes q2 (by show 3 < D; omega) (by show 3 ≠ b; omega), r2⟩, Nat.le_trans h.b0 k.size⟩
  have ht := h.tab
  unfold Lib.TabIs World.var? at ht ⊢
  rw [gPow] at ht ⊢
  simp only [Option.bind_some] at ht ⊢
  rw [k.block 0 (by omega) (by omega)]
  exact ht
theorem cutAt_any (s t : B) (w : World) (hE : EX w) (hs : s.length ≤ 4000000000) : Calls Tryd.prog 41 #[sV s, sV t] w fun e w' => e = .returned (.tuple #[sV (Lib.cut s t).1, sV (Lib.cut s t).2.1, .bool (Lib.cut s t).2.2]) ∧ Kept w w' := by
  obtain ⟨m, hm⟩ := hE.ml
  have hsz : (ByteArray.mk s.toArray).size = s.length := List.size_toArray
  refine (Tryd.strings_Cut ⟨s.toArray⟩ ⟨t.toArray⟩ m w (by omega) hm).mono ?_
  rintro e w1 ⟨rfl, n, rfl⟩
  exact ⟨rfl, (Kept.refl w).drewN n⟩
theorem contains_any (s : B) (w : World) (hE : EX w) (hs : s.length ≤ 4000000000) : Calls Tryd.prog 59 #[sV s, sV [13]] w fun e w' => e = .returned (.bool (decide ((13 : UInt8) ∈ s))) ∧ w' = w := by
  obtain ⟨m, hm⟩ := hE.ml
  have hsz : (ByteArray.mk s.toArray).size = s.length := List.size_toArray
  refine (Tryd.strings_Contains ⟨s.toArray⟩ ⟨[13].toArray⟩ m w (by omega) hm).mono ?_
  rintro e w1 ⟨rfl, rfl⟩
  refine ⟨?_, rfl⟩
  rw [← contains_13]
theorem cutSuffix_any (s : B) (w : World) (hs : s.length ≤ 4000000000) : Calls Tryd.prog 58 #[sV s, sV [13]] w fun e w' => e = .returned (.tuple #[sV (if s.getLast? = some 13 then s.dropLast else s), .bool (decide (s.getLast? = some 13))]) ∧ w' = w := by
  have hsz : (ByteArray.mk s.toArray).size = s.length := List.size_toArray
  refine (Tryd.strings_CutSuffix ⟨s.toArray⟩ ⟨[13].toArray⟩ w (by omega)).mono ?_
  rintro e w1 ⟨rfl, rfl⟩
  refine ⟨?_, rfl⟩
  rw [← trim_13, ← suf_13]
theorem itoa_any (n : Nat) (w : World) (hE : EX w) (h1 : n ≤ 9223372036854775807) :
    Calls Tryd.prog 22 #[iV n] w fun e w' => e = .returned (sV (Lib.decDigits n)) ∧ Kept w w' := by
  refine (Tryd.strconv_Itoa n (by omega) (by omega) w hE.tab).mono ?_
  rintro e w1 ⟨rfl, m, os, rfl⟩
  rw [Lib.itoa_nonneg]
  exact ⟨rfl, ((Kept.refl w).drewN m).grow os⟩
/-- Atoi's number: 0 of what is none -/
def atN (s : B) : Int := match Lib.atoiAll s with
  | .ok v => v
  | .range => Lib.atoiSat s
  | _ => 0
theorem atoi_any (s : B) (w : World) (hE : EX w) (hl : s.length ≤ 1000000000000) : Calls Tryd.prog 57 #[sV s] w fun e w' => ∃ ev, e = .returned (.tuple #[iV (atN s), ev]) ∧ Kept w w' := by
  have hsz : (ByteArray.mk s.toArray).size = s.length := List.size_toArray
  cases h : Lib.atoiAll s with
  | ok v =>
    refine (Tryd.strconv_Atoi_ok ⟨s.toArray⟩ (by omega) v h w).mono ?_
    rintro e w' ⟨rfl, hw⟩
    refine ⟨_, by rw [show atN s = v by unfold atN; rw [h]], ?_⟩
    rcases hw with rfl | ⟨t, rfl⟩
    · exact Kept.refl _
    · exact Kept.of_below (Lib.bytesWorld_below _ _ _)
  | «syntax» =>
    obtain ⟨ev, h1, h2⟩ := hE.es
    refine (Tryd.strconv_Atoi_syntax ⟨s.toArray⟩ (by omega) h ev w h1 h2).mono ?_
    rintro e w' ⟨N, rfl, _, _, hb⟩
    exact ⟨_, by rw [show atN s = 0 by unfold atN; rw [h]], Kept.of_below hb⟩
  | range =>
    obtain ⟨ev, h1, h2⟩ := hE.er
    refine (Tryd.strconv_Atoi_range ⟨s.toArray⟩ (by omega) h ev w h1 h2).mono ?_
    rintro e w' ⟨N, rfl, _, _, hk⟩
    exact ⟨_, by rw [show atN s = Lib.atoiSat s by unfold atN; rw [h]], Kept.of_below hk⟩
theorem atN_bounds (s : B) : -9223372036854775808 ≤ atN s ∧ atN s ≤ 9223372036854775807 := by
  unfold atN
  split
  · rename_i h; exact Lib.atoiAll_bounds h
  · exact Lib.atoiSat_bounds s
  · omega
theorem atN_nm {s : B} {n : Nat} (h : nm s = some n) : atN s = n := by
  obtain ⟨h1, h2⟩ := nm_some h
  unfold atN
  rw [h2, atoi_dec3 h1]
/-- a number that is written just so -/
theorem nm_atN (s : B) : nm s = if 0 ≤ atN s ∧ atN s ≤ 999 ∧ Lib.decDigits (atN s).toNat = s then some (atN s).toNat else none := by
  split
  · rename_i h
    rw [nm_iff]
    exact ⟨by omega, h.2.2.symm⟩
  · rename_i h
    cases hn : nm s with
    | none => rfl
    | some n =>
      obtain ⟨h1, h2⟩ := nm_some hn
      have := atN_nm hn
      exact absurd ⟨by omega, by omega, by rw [this, Int.toNat_natCast]; exact h2.symm⟩ h
/-- three bytes' code -/
theorem atN_code {s : B} (hs : s.length = 3) (h : okC (atN s) = true) : nm s = some (atN s).toNat ∧ ((atN s).toNat : Int) = atN s := by
  have hb := okC_iff.1 h
  cases ha : Lib.atoiAll s with
  | ok v =>
    have hv : atN s = v := by unfold atN; rw [ha]
    obtain ⟨n, h1, h2⟩ := atoi_code hs ha (by rw [← hv]; exact hb.1)
    rw [hv, h1, Int.toNat_natCast]
    exact ⟨h2, rfl⟩
  | «syntax» =>
    have hv : atN s = 0 := by unfold atN; rw [ha]
    omega
  | range =>
    have hv : atN s = Lib.atoiSat s := by unfold atN; rw [ha]
    rw [hv] at hb
    unfold Lib.atoiSat at hb
    split at hb <;> omega
set_option maxRecDepth 100000 in
theorem clone_any (s : B) (w : World) (hs : s.length ≤ 1000000000000) : Calls Tryd.prog 47 #[sV s] w fun e w' => e = .returned (sV s) ∧ Kept w w' := by
  have hsz : (ByteArray.mk s.toArray).size = s.length := List.size_toArray
  have H := Lib.hid (Tryd.stringslite_Clone ⟨s.toArray⟩ w (by omega))
  clear hsz
  go_enter Tryd.func47, Tryd.ntmps47
  go_wp2_with fail
  refine H.out.mono ?_
  rintro e w1 ⟨rfl, hb⟩
  go_wp2
  go_ret
  exact ⟨rfl, Kept.of_below hb⟩
abbrev faultV : Value := .iface 61 (.agg #[])
abbrev chF : List PanicEntry := [{ v := faultV, recovered := false }]
abbrev gon : Ending := .panicked chF
set_option maxRecDepth 100000 in
theorem need_yes (w : World) : Calls Tryd.prog 46 #[.bool true] w fun e w' => e = .returned (.tuple #[]) ∧ w = w' := by
  go_enter Tryd.func46, Tryd.ntmps46
  go_wp2
  go_end0
  exact ⟨rfl, rfl⟩
set_option maxRecDepth 100000 in
theorem need_no (w : World) : Calls Tryd.prog 46 #[.bool false] w fun e w' => e = gon ∧ w = w' := by
  go_enter Tryd.func46, Tryd.ntmps46
  go_wp2
  exact ⟨rfl, rfl, rfl⟩
set_option maxRecDepth 100000 in
theorem isCode_any (c : Int) (w : World) : Calls Tryd.prog 28 #[iV c] w fun e w' => e = .returned (.bool (okC c)) ∧ w = w' := by
  unfold okC
  by_cases h1 : 200 ≤ c
  · by_cases h2 : c ≤ 599
    · go_enter Tryd.func28, Tryd.ntmps28
      go_wp2
      go_ret
      exact ⟨eb_ret (by simp [h1, h2]), rfl⟩
    · go_enter Tryd.func28, Tryd.ntmps28
      go_wp2
      go_ret
      exact ⟨eb_ret (by simp [h1, h2]), rfl⟩
  · go_enter Tryd.func28, Tryd.ntmps28
    go_wp2
    go_ret
    exact ⟨eb_ret (by simp [h1]; omega), rfl⟩
end Go.Proofs.YtdfmnjoklehifaaDoor.Bk.Rp
