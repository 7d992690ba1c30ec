/- Package head: the header that lines look like. -/
import Derived.Test.YtdhhlcgmkkpldaaGreatDoorHdDc
import Derived.Deep.RegionHeld3
set_option linter.unusedSimpArgs false
set_option linter.unusedVariables false
namespace Go.Proofs.YtdhhlcgmkkpldaaGreatDoor.Hd
open Go.ChangeShapes Go.WideShapes Go.ChangeAt Go.RowKit Go.Shelf
theorem cut_le (l t : B) : (Lib.cut l t).1.length ≤ l.length ∧ (Lib.cut l t).2.1.length ≤ l.length := by
  unfold Lib.cut
  split
  · simp; omega
  · simp
theorem hdr_le1 (l : B) : (hdr l).1.length ≤ l.length := (cut_le l [58]).1
theorem parts_sum : ∀ (ws : List B) (D : B), parts ws = some D → D.length ≤ sumW ws
  | [], D, h => by cases h; simp [sumW]
  | w :: ws, D, h => by
    rw [parts] at h
    cases hd : decW w with
    | none => rw [hd] at h; cases h
    | some p =>
      rw [hd] at h
      simp only [Option.map_eq_some_iff] at h
      obtain ⟨D', h1, rfl⟩ := h
      have := parts_sum ws D' h1
      have := decW_len hd
      rw [sumW, List.length_append]; omega
theorem dcd_le (s : B) : (dcd s).length ≤ 3 * s.length + 3 := by
  unfold dcd
  cases h : parts (splt 32 s) with
  | none => simp; omega
  | some D =>
    have h1 := parts_sum _ D h
    have h2 := sumW_splt _ s (Nat.le_refl _)
    simp; omega
theorem hdr_le2 (l : B) : (hdr l).2.length ≤ 3 * l.length + 3 := by
  have h1 := dcd_le (Lib.trimPrefix (Lib.cut l [58]).2.1 [32])
  have h2 := tp_le (Lib.cut l [58]).2.1 [32]
  have h3 := (cut_le l [58]).2
  unfold hdr
  simp only
  omega
theorem kept_setRow {w x : World} (h : Kept w x) {g : Nat} (hg : w.heap.size ≤ g) (cs : Array Value) : Kept w (x.setRow g cs) :=
  ⟨h.os, h.output, by simpa using h.size, fun k hk => (setRow_other _ _ _ _ (by omega)).trans (h.block k hk), h.tape⟩
abbrev z2H : Array Value := #[sV [], sV []]
set_option maxRecDepth 100000 in
set_option maxHeartbeats 4000000 in
theorem header_any (l : B) (w : World) (hE : Env w) (hl : l.length ≤ 1000000) : Calls Tryz.prog 27 #[sV l] w fun e w' => e = .returned (hV (hdr l)) ∧ Kept w w' := by
  have hb : (w.alloc (.cells z2H 25)).heap[w.heap.size]? = some (.cells z2H 25) := World.alloc_heap_new w _
  have kb := (Kept.refl w).alloc (.cells z2H 25)
  have hcl := cut_le l [58]
  have HC := Lib.hid (fun w hE => cutAt_any l [58] w hE (by omega))
  have HH := Lib.hid (show hdr l = ((Lib.cut l [58]).1, dcd (Lib.trimPrefix (Lib.cut l [58]).2.1 [32])) from rfl)
  have hE1 := hE.kept kb
  generalize hdr l = res at *
  generalize (Lib.cut l [58]).1 = n at *
  generalize (Lib.cut l [58]).2.1 = t at *
  generalize (Lib.cut l [58]).2.2 = q at *
  have htp := tp_le t [32]
  have HT := Lib.hid (fun w => trimPrefix_any t [32] w)
  have HD := Lib.hid (fun w hE => decoded_any (Lib.trimPrefix t [32]) w hE (by omega))
  generalize Lib.trimPrefix t [32] = t2 at *
  generalize dcd t2 = d at *
  obtain rfl := HH.out
  have HE := Lib.hid hE1
  have HB := Lib.hid hb
  have KB := Lib.hid kb
  clear hE hE1 hb kb HH
  go_enter Tryz.func27, Tryz.ntmps27
  go_upto_region 1 with (fail)
  generalize w.alloc (.cells z2H 25) = x at *
  go_wp2_with fail
  refine (HC.out _ HE.out).mono ?_
  rintro e x1 ⟨rfl, k1⟩
  go_wp2_with fail
  refine (HT.out _).mono ?_
  rintro e x2 ⟨rfl, rfl⟩
  go_wp2_with fail
  refine (HD.out _ (HE.out.kept k1)).mono ?_
  rintro e x3 ⟨rfl, k3⟩
  have k13 := k1.trans k3
  have hb3 : x3.heap[w.heap.size]? = some (.cells z2H 25) := (k13.block _ (Array.getElem?_eq_some_iff.1 HB.out).1).trans HB.out
  have K3 := Lib.hid (KB.out.trans k13)
  clear k1 k3 k13
  go_wp2_with (refine wpList_store_row rfl 25 _ _ rfl w.heap.size _ rfl rfl 25 _ hb3 (by kernel_rfl) rfl (by simp [Value.oneCell']) ?_)
  exact bodyPost_ret (v := hV (n, d)) (results_cell_row Tryz.results27 _ _ w.heap.size 25 _ (0, 0) _ rfl (setRow_heap _ _ _ _ _ _ hb3) Tryz.underlying25 rfl (by kernel_rfl)) rfl ⟨rfl, kept_setRow K3.out (Nat.le_refl _) _⟩
end Go.Proofs.YtdhhlcgmkkpldaaGreatDoor.Hd
