/- The document's answer for package part: the boundary; kinds; headers. -/
import Derived.Test.YtgpocnnolieijaaGreatDoorPtRa
import Derived.Test.YtgpocnnolieijaaGreatDoorPtW
set_option linter.unusedSimpArgs false
set_option linter.unusedVariables false
namespace Go.Proofs.YtgpocnnolieijaaGreatDoor.Pt
open Go.ChangeShapes Go.WideShapes Go.ChangeAt Go.RowKit Go.Shelf
theorem bnd_len (n : Nat) : (bnd n).length ≤ n + 3 := by
  have := dec_len n n (Nat.le_refl _)
  unfold bnd; simp; omega
theorem bnd_ne (n : Nat) : bnd n ≠ [] := by unfold bnd; simp
theorem at_zero (s x : B) : atV s x 0 = Lib.index s x := by
  unfold atV
  rw [List.drop_zero]
  split
  · rename_i h; exact h.symm
  · simp
theorem all_snoc {l : List B} {i : Nat} {b : B} (h : l[i]? = some b) (n : Nat) : n ∈ all (l.take (i + 1)) ↔ n ∈ all (l.take i) ∨ n ∈ nums b := by
  unfold all
  rw [List.take_add_one, h]
  simp
set_option maxRecDepth 100000 in
set_option maxHeartbeats 4000000 in
theorem rboundary_any (v : Value) (l : List B) (w : World) (hR : LRd v l w) (hb : ∀ b ∈ l, b.length ≤ 1000000) (hs : sum l ≤ 900000) (hl : l.length ≤ 1000000) :
    Calls Tryz.prog 13 #[v] w fun e w' => e = .returned (sV (bdy l)) ∧ w' = w := by
  obtain ⟨va, vc, rfl⟩ := hR.slice
  have HR := Lib.hid hR
  have HB := Lib.hid hb
  have hfl := free_le (all l)
  have hal := all_len l
  have hf9 : free (all l) ≤ 900000 := by omega
  clear hR hb hfl hal
  go_enter Tryz.func13, Tryz.ntmps13
  go_wp2_with fail
  go_loopw [3, 4, 5, 6] (fun vn _ _ _ wr => ∃ n : Nat, n ≤ free (all l) ∧ vn = .int .i64 n ∧ w = wr) (fun vn _ _ _ _ => free (all l) - (intOf vn).toNat)
  case atStart => exact ⟨0, Nat.zero_le _, rfl, rfl⟩
  case round =>
    obtain ⟨n, hn, rfl, rfl⟩ := hrel
    have HN := Lib.hid (rnumber_nat n w (by omega))
    have hdl := dec_len n n (Nat.le_refl _)
    have hds : (ByteArray.mk (Lib.decDigits n).toArray).size = (Lib.decDigits n).length := List.size_toArray
    have ha : (⟨#[61, 95]⟩ ++ ⟨(Lib.decDigits n).toArray⟩ : ByteArray) = ⟨(bnd n).toArray⟩ := Hd.app_mk [61, 95] (Lib.decDigits n)
    have hbl := bnd_len n
    have HNE := Lib.hid (bnd_ne n)
    have HF := Lib.hid (show (n ∈ all l → n < free (all l)) ∧ (n ∉ all l → n = free (all l)) from ⟨fun h => by
      rcases Nat.lt_or_ge n (free (all l)) with q | q
      · exact q
      · have : n = free (all l) := by omega
        rw [this] at h
        exact absurd h (free_not _), fun h => by
      rcases Nat.lt_or_ge n (free (all l)) with q | q
      · exact absurd (free_in _ n q) h
      · omega⟩)
    have HBD := Lib.hid (show n = free (all l) → bdy l = bnd n from fun h => by unfold bdy; rw [← h])
    have HI := Lib.hid (fun b => mem_nums (n := n) b)
    generalize bnd n = x at *
    generalize Lib.decDigits n = dd at *
    generalize hfr : free (all l) = f at *
    have HFR := Lib.hid hfr
    clear hfr
    go_wp2_with fail
    refine HN.out.mono ?_
    rintro e y ⟨rfl, hy⟩
    subst hy
    clear HN
    go_wp2_with fail
    go_loopw [5, 6] (fun vf vi wr => ∃ i : Nat, i ≤ l.length ∧ vi = .int .i64 i ∧ vf = .bool (decide (n ∈ all (l.take i))) ∧ w = wr) (fun _ vi _ => l.length - (intOf vi).toNat)
    case atStart => exact ⟨0, Nat.zero_le _, rfl, by simp [all], rfl⟩
    case round =>
      obtain ⟨i, hi, rfl, rfl, rfl⟩ := hrel
      by_cases hlt : i < l.length
      · have hltI : (i : Int) < l.length := by omega
        obtain ⟨b, hb⟩ : ∃ b, l[i]? = some b := ⟨_, List.getElem?_eq_getElem hlt⟩
        obtain ⟨g, o, c, xv, hv, hc, c0, hx⟩ := HR.out.at hb
        cases hv
        have hcv := hx.conv
        obtain ⟨xa, xc, rfl⟩ := hx.slice
        have HA := Lib.hid (all_snoc hb n)
        have hbl' := HB.out b (List.mem_of_getElem? hb)
        have HAt := Lib.hid (at_any b x 0 w HNE.out (Nat.zero_le _) (by omega) (by omega))
        rw [at_zero] at HAt
        have hge := Lib.index_ge b x
        have HIb := Lib.hid (HI.out b)
        clear hb hx
        cases hd : decide (n ∈ all (l.take i)) with
        | true =>
          have HD := Lib.hid (show decide (n ∈ all (l.take (i + 1))) = true from decide_eq_true ((HA.out).2 (Or.inl (of_decide_eq_true hd))))
          clear hd
          go_wp2
          go_roundw
          case rel => exact ⟨i + 1, hlt, by go_num, by rw [HD.out], by first | rfl | exact trivial⟩
          case measure => simp [intOf]; omega
        | false =>
          have HD := Lib.hid (show decide (n ∈ all (l.take (i + 1))) = decide (0 ≤ Lib.index b x) from decide_eq_decide.2 ((HA.out).trans ⟨fun h => h.elim (fun h => absurd h (of_decide_eq_false hd)) (fun h => by have := (HIb.out).1 h; omega), fun h => Or.inr ((HIb.out).2 (by omega))⟩))
          clear hd HA HIb
          generalize Lib.index b x = ix at *
          go_wp2_with fail
          refine HAt.out.mono ?_
          rintro e z ⟨rfl, hz⟩
          have hz' := hz.symm
          subst hz'
          clear HAt hz
          go_wp2
          go_roundw
          case rel => exact ⟨i + 1, hlt, by go_num, by rw [HD.out], by first | rfl | exact trivial⟩
          case measure => simp [intOf]; omega
      · obtain rfl : i = l.length := by omega
        have hltI : ¬ (l.length : Int) < l.length := by omega
        rw [List.take_length]
        cases hd : decide (n ∈ all l) with
        | true =>
          have hnf := HF.out.1 (of_decide_eq_true hd)
          clear hd
          go_wp2
          go_roundw
          case rel => exact ⟨n + 1, hnf, by go_num, by first | rfl | exact trivial⟩
          case measure => simp [intOf]; omega
        | false =>
          have HZ := Lib.hid (HBD.out (HF.out.2 (of_decide_eq_false hd)))
          clear hd
          go_wp2
          go_ret
          exact ⟨by rw [HZ.out]; rfl, rfl⟩
end Go.Proofs.YtgpocnnolieijaaGreatDoor.Pt
