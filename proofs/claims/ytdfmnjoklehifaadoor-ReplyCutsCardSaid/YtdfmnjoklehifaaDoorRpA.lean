/- Package reply's small functions: numbers, what is enhanced; a line is read. -/
import Derived.Test.YtdfmnjoklehifaaDoorRpSh
set_option linter.unusedSimpArgs false
set_option linter.unusedVariables false
namespace Go.Proofs.YtdfmnjoklehifaaDoor.Bk.Rp
open Go.ChangeShapes Go.WideShapes Go.ChangeAt Go.RowKit Go.Shelf
theorem split_eq (c : UInt8) : ∀ (n : Nat) (l : List UInt8), l.length ≤ n → Lib.splitK [c] 0 (Lib.count l [c]) l = splt c l ∧ Lib.count l [c] + 1 = (splt c l).length := by
  intro n
  induction n with
  | zero =>
    intro l h
    obtain rfl : l = [] := by simpa using h
    rw [Lib.count_miss (idx_no c [] (by simp))]
    exact ⟨rfl, rfl⟩
  | succ n ih =>
    intro l h
    rcases cut_cases c l with hm | ⟨p, r, rfl, hp⟩
    · rw [Lib.count_miss (idx_no c _ hm), splt_none l hm]; exact ⟨rfl, rfl⟩
    · have hi := idx_one c r p hp
      have hd : (p ++ c :: r).drop (p.length + [c].length) = r := by simp
      have hr : r.length ≤ n := by simp at h; omega
      obtain ⟨i1, i2⟩ := ih r hr
      rw [Lib.count_hit (by simp) hi, hd, splt_app p r hp, Nat.add_comm 1, Lib.splitK, if_neg (by rw [hi]; simp), hi]
      refine ⟨?_, by simp; omega⟩
      rw [Int.toNat_natCast, hd, i1]; simp
theorem splitB_eq (c : UInt8) (l : List UInt8) : (Lib.splitB ⟨[c].toArray⟩ 0 (Lib.countB ⟨l.toArray⟩ ⟨[c].toArray⟩) ⟨l.toArray⟩) = (splt c l).map fun p => (⟨p.toArray⟩ : ByteArray) := by
  have h := Lib.splitB_data ⟨[c].toArray⟩ 0 (Lib.countB ⟨l.toArray⟩ ⟨[c].toArray⟩) ⟨l.toArray⟩
  have h2 := (split_eq c l.length l (Nat.le_refl _)).1
  have h3 : (Lib.splitB ⟨[c].toArray⟩ 0 (Lib.countB ⟨l.toArray⟩ ⟨[c].toArray⟩) ⟨l.toArray⟩).map (·.data.toList) = splt c l := h.trans h2
  rw [← h3, List.map_map]
  symm
  conv => rhs; rw [← List.map_id (Lib.splitB _ _ _ _)]
  apply List.map_congr_left
  intro b _
  rfl
theorem split_any (c : UInt8) (l : B) (w : World) (hE : EX w) (hl : l.length ≤ 1000000000) :
    Calls Tryd.prog 42 #[sV l, sV [c]] w fun e w' => ∃ v, e = .returned v ∧ SRd v (splt c l) w' ∧ Kept w w' ∧ v = .slice (some ⟨w.heap.size, 0, none⟩) (splt c l).length (splt c l).length := by
  obtain ⟨m, hm⟩ := hE.ml
  refine (Tryd.strings_Split ⟨l.toArray⟩ ⟨[c].toArray⟩ m w (by show l.length < _; omega) hm (by show 1 ≤ 1; omega)).mono ?_
  rintro e w1 ⟨rfl, rfl⟩
  have hc : Lib.countB ⟨l.toArray⟩ ⟨[c].toArray⟩ + 1 = (splt c l).length := (split_eq c l.length l (Nat.le_refl _)).2
  refine ⟨_, rfl, ?_, (Kept.refl w).alloc _, by rw [hc]⟩
  rw [hc, splitB_eq]
  refine ⟨_, _, rfl, fun _ => ⟨_, _, rfl, Nat.le_refl _, fun i t ht => ?_⟩⟩
  rw [Nat.zero_add]
  have hb := World.alloc_heap_new w (.cells (((splt c l).map fun p => (⟨p.toArray⟩ : ByteArray)).map Value.string).toArray 9)
  exact cell_at hb (by simp [ht])
/-- a number, 0 of what is none -/
def nmV (s : B) : Int := match nm s with
  | some n => n
  | none => 0
theorem tup_ret {a b : Array Value} (h : a = b) : Ending.returned (.tuple a) = .returned (.tuple b) := by rw [h]
set_option maxRecDepth 100000 in
set_option maxHeartbeats 1000000 in
theorem number_any (s : B) (w : World) (hE : EX w) (hl : s.length ≤ 1000000000000) : Calls Tryd.prog 43 #[sV s] w fun e w' => e = .returned (.tuple #[iV (nmV s), .bool (nm s).isSome]) ∧ Kept w w' := by
  have HA := Lib.hid (atoi_any s w hE hl)
  have HN := Lib.hid (nm_atN s)
  have HE := Lib.hid hE
  have hb := atN_bounds s
  generalize atN s = n at *
  clear hE hl
  by_cases h1 : n < 0
  · have HZ := Lib.hid (show nm s = none by rw [HN.out, if_neg (by omega)])
    clear HN
    go_enter Tryd.func43, Tryd.ntmps43
    go_wp2_with fail
    refine HA.out.mono ?_
    rintro e w1 ⟨ev, rfl, k1⟩
    go_wp2
    go_ret2
    exact ⟨tup_ret (by unfold nmV; rw [HZ.out]; rfl), k1⟩
  · by_cases h2 : 999 < n
    · have HZ := Lib.hid (show nm s = none by rw [HN.out, if_neg (by omega)])
      clear HN
      go_enter Tryd.func43, Tryd.ntmps43
      go_wp2_with fail
      refine HA.out.mono ?_
      rintro e w1 ⟨ev, rfl, k1⟩
      go_wp2
      go_ret2
      exact ⟨tup_ret (by unfold nmV; rw [HZ.out]; rfl), k1⟩
    · obtain ⟨k, rfl⟩ := Int.eq_ofNat_of_zero_le (show 0 ≤ n by omega)
      rw [Int.toNat_natCast] at HN
      have HI := Lib.hid (fun w hE => itoa_any k w hE (by omega))
      have HN2 := Lib.hid (show nm s = if Lib.decDigits k = s then some k else none by
        rw [HN.out]
        by_cases q : Lib.decDigits k = s
        · rw [if_pos ⟨by omega, by omega, q⟩, if_pos q]
        · rw [if_neg (fun e => q e.2.2), if_neg q])
      clear HN
      generalize Lib.decDigits k = t at *
      by_cases h3 : t = s
      · have HZ := Lib.hid (show nm s = some k by rw [HN2.out, if_pos h3])
        subst h3
        clear HN2
        go_enter Tryd.func43, Tryd.ntmps43
        go_wp2_with fail
        refine HA.out.mono ?_
        rintro e w1 ⟨ev, rfl, k1⟩
        go_wp2_with fail
        refine (HI.out _ (HE.out.kept k1)).mono ?_
        rintro e w2 ⟨rfl, k2⟩
        have K2 := Lib.hid (k1.trans k2)
        clear k1 k2
        go_wp2
        go_ret2
        exact ⟨tup_ret (by unfold nmV; rw [HZ.out]; rfl), K2.out⟩
      · have HZ := Lib.hid (show nm s = none by rw [HN2.out, if_neg h3])
        have h4 : (t == s) = false := beq_eq_false_iff_ne.2 h3
        clear HN2 h3
        go_enter Tryd.func43, Tryd.ntmps43
        go_wp2_with fail
        refine HA.out.mono ?_
        rintro e w1 ⟨ev, rfl, k1⟩
        go_wp2_with fail
        refine (HI.out _ (HE.out.kept k1)).mono ?_
        rintro e w2 ⟨rfl, k2⟩
        have K2 := Lib.hid (k1.trans k2)
        clear k1 k2
        go_wp2
        go_ret2
        exact ⟨tup_ret (by unfold nmV; rw [HZ.out]; rfl), K2.out⟩
end Go.Proofs.YtdfmnjoklehifaaDoor.Bk.Rp
