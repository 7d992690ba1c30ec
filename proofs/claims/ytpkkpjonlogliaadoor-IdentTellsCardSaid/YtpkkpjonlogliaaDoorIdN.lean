/- Package ident: letters made small. -/
import Derived.Test.YtpkkpjonlogliaaDoorIdIx
import Derived.Test.YtpkkpjonlogliaaDoorIdB
import Derived.Laws.IdiomStrings
import Derived.Lib.ConvBytes
set_option linter.unusedSimpArgs false
set_option linter.unusedVariables false
namespace Go.Proofs.YtpkkpjonlogliaaDoor
open Go.ChangeShapes Go.WideShapes Go.ChangeAt Go.RowKit
open En Idn
/-- bytes of a text in a row that may be written -/
def LoR (b : Nat) (l : List UInt8) (k : Nat) (w : World) : Prop := ∀ (i : Nat) (x : UInt8), l[i]? = some x → w.cell? ⟨b, i, none⟩ = some (.int .u8 ((if i < k then Lib.lowerB x else x).toNat : Int)) ∧ w.frozen? ⟨b, i, none⟩ = false
theorem lor_new (l : List UInt8) (w : World) : ∃ c w', (convert 9 49 (.string ⟨l.toArray⟩)).run Tryd.prog w = .ok (.slice (some ⟨w.heap.size, 0, none⟩) l.length c) w' ∧ Kept w w' ∧ LoR w.heap.size l 0 w' ∧ l.length ≤ c := by
  have h := Lib.run_convert_string_bytes (P := Tryd.prog) w 9 49 5 ⟨l.toArray⟩ Tryd.underlying9 Tryd.underlying49 Tryd.underlying5
  have hs : (ByteArray.mk l.toArray).size = l.length := List.size_toArray
  rw [hs] at h
  refine ⟨_, _, h, ⟨rfl, rfl, by rw [Lib.bytesWorld_size]; omega, fun k hk => Lib.bytesWorld_at_old w _ _ k hk, rfl⟩, fun i x hx => ⟨?_, ?_⟩, grownCap_ge _ _ _ _⟩
  · have hi : i < l.length := (List.getElem?_eq_some_iff.1 hx).1
    rw [Lib.bytesWorld_cell w _ _ i (by rw [hs]; exact hi), if_neg (by omega)]
    simp [List.getD, hx]
  · have hi : i < l.length := (List.getElem?_eq_some_iff.1 hx).1
    have hc := Lib.bytesWorld_cell w 5 ⟨l.toArray⟩ i (by rw [hs]; exact hi)
    have hn := Lib.bytesWorld_at_new w 5 ⟨l.toArray⟩
    simp only [World.cell?, hn] at hc
    have hlt : i < (Lib.bytesCells w 5 ⟨l.toArray⟩).size := by
      by_cases q : i < (Lib.bytesCells w 5 ⟨l.toArray⟩).size
      · exact q
      · rw [Array.getElem?_eq_none (by omega)] at hc; simp at hc
    simp [World.frozen?, hn]
    omega
theorem LoR.set {b : Nat} {l : List UInt8} {k : Nat} {w : World} {x : UInt8} (h : LoR b l k w) (hx : l[k]? = some x) : LoR b l (k + 1) (w.setCell ⟨b, k, none⟩ (.int .u8 ((Lib.lowerB x).toNat : Int))) := by
  intro i y hy
  by_cases e : i = k
  · subst e
    rw [hx] at hy
    cases hy
    rw [if_pos (by omega)]
    exact ⟨World.cell?_setCell_same _ _ _ (h i x hx).1, by rw [World.frozen?_setCell]; exact (h i x hx).2⟩
  · have q := h i y hy
    refine ⟨?_, by rw [World.frozen?_setCell]; exact q.2⟩
    rw [World.cell?_setCell_other _ _ _ _ (fun c => e (by cases c; rfl)), q.1]
    by_cases h1 : i < k
    · rw [if_pos h1, if_pos (by omega)]
    · rw [if_neg h1, if_neg (by omega)]
theorem LoR.skip {b : Nat} {l : List UInt8} {k : Nat} {w : World} {x : UInt8} (h : LoR b l k w) (hx : l[k]? = some x) (hl : Lib.lowerB x = x) : LoR b l (k + 1) w := by
  intro i y hy
  have q := h i y hy
  refine ⟨?_, q.2⟩
  rw [q.1]
  by_cases e : i = k
  · subst e
    rw [hx] at hy
    cases hy
    rw [if_neg (by omega), if_pos (by omega), hl]
  · by_cases h1 : i < k
    · rw [if_pos h1, if_pos (by omega)]
    · rw [if_neg h1, if_neg (by omega)]
theorem LoR.conv {b : Nat} {l : List UInt8} {w : World} {c : Nat} (h : LoR b l l.length w) : (convert 49 9 (.slice (some ⟨b, 0, none⟩) l.length c)).run Tryd.prog w = .ok (.string ⟨(lo l).toArray⟩) w := by
  have hl : (lo l).length = l.length := List.length_map _
  have := run_convert_bytes_back (P := Tryd.prog) w _ _ _ ⟨b, 0, none⟩ c (lo l) Tryd.underlying49 Tryd.underlying5 Tryd.underlying9 (fun j hj => by
    have hj' : j < l.length := by rw [← hl]; exact hj
    have q := (h j l[j] (List.getElem?_eq_getElem hj')).1
    rw [if_pos hj'] at q
    rw [Addr.add_lit, Nat.zero_add, q]
    simp only [lo, List.getElem_map])
  rw [hl] at this
  exact this
set_option maxRecDepth 100000 in
set_option maxHeartbeats 4000000 in
theorem lowered_any (l : List UInt8) (w : World) (hl : l.length ≤ 1000000) : Calls Tryd.prog 34 #[.string ⟨l.toArray⟩] w fun e w' => e = .returned (.string ⟨(lo l).toArray⟩) ∧ Kept w w' := by
  obtain ⟨c, w1, hcv, hk1, hR, hc⟩ := lor_new l w
  have K1 := Lib.hid hk1
  have R1 := Lib.hid hR
  clear hk1 hR
  go_enter Tryd.func34, Tryd.ntmps34
  go_wp2
  go_loopw [10] (fun vi wr => ∃ i : Nat, i ≤ l.length ∧ vi = .int .i64 i ∧ Hid (Kept w wr) ∧ Hid (LoR w.heap.size l i wr)) (fun vi _ => l.length - (intOf vi).toNat)
  case atStart => exact ⟨0, Nat.zero_le _, rfl, K1, R1⟩
  case round =>
    obtain ⟨i, hi, rfl, hK, hR⟩ := hrel
    by_cases hlt : i < l.length
    · have hltI : (i : Int) < l.length := by omega
      obtain ⟨x, hx⟩ : ∃ x, l[i]? = some x := ⟨_, List.getElem?_eq_getElem hlt⟩
      obtain ⟨c0, f0⟩ := hR.out i x hx
      rw [if_neg (by omega)] at c0
      have hxl := x.toNat_lt
      by_cases hu : 65 ≤ x.toNat ∧ x.toNat ≤ 90
      · have hlo : (Lib.lowerB x).toNat = x.toNat + 32 := by
          rcases lowerB_cases x with q | q
          · exfalso
            unfold Lib.lowerB Lib.isUpperB at q
            have h1 : (65 : UInt8) ≤ x := by rw [UInt8.le_iff_toNat_le]; exact hu.1
            have h2 : x ≤ (90 : UInt8) := by rw [UInt8.le_iff_toNat_le]; exact hu.2
            simp [h1, h2] at q
          · exact q.2.2
        have HN := Lib.hid (hR.out.set hx)
        rw [hlo, show ((x.toNat + 32 : Nat) : Int) = (x.toNat : Int) - 65 + 97 by omega] at HN
        have u1 : (65 : Int) ≤ x.toNat := by omega
        have u2 : (x.toNat : Int) ≤ 90 := by omega
        have K2 := Lib.hid (hK.out.setCell (a := ⟨w.heap.size, i, none⟩) (Nat.le_refl _) (.int .u8 ((x.toNat : Int) - 65 + 97)))
        clear hK hR hx hu hlo R1 K1 hcv
        go_wp2
        go_roundw
        case rel => exact ⟨i + 1, hlt, by go_num, K2, HN⟩
        case measure => simp [intOf]; omega
      · have hlo : Lib.lowerB x = x := lowerB_low (by omega)
        have HN := Lib.hid (hR.out.skip hx hlo)
        clear hR hx hlo R1 K1 hcv
        by_cases h1 : (65 : Int) ≤ x.toNat
        · have h2 : ¬ (x.toNat : Int) ≤ 90 := by omega
          clear hu
          go_wp2
          go_roundw
          case rel => exact ⟨i + 1, hlt, by go_num, hK, HN⟩
          case measure => simp [intOf]; omega
        · clear hu
          go_wp2
          go_roundw
          case rel => exact ⟨i + 1, hlt, by go_num, hK, HN⟩
          case measure => simp [intOf]; omega
    · obtain rfl : i = l.length := by omega
      have hcb := hR.out.conv (c := c)
      go_wp2
      go_ret
      exact ⟨rfl, hK.out⟩
end Go.Proofs.YtpkkpjonlogliaaDoor
