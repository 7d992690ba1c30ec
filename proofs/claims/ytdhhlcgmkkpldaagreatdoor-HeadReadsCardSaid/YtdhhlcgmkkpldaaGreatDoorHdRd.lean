/- The document's answer for package head: all lines; are lists the same; are headers few. -/
import Derived.Test.YtdhhlcgmkkpldaaGreatDoorHdRc
set_option linter.unusedSimpArgs false
set_option linter.unusedVariables false
namespace Go.Proofs.YtdhhlcgmkkpldaaGreatDoor.Hd
open Go.ChangeShapes Go.WideShapes Go.ChangeAt Go.RowKit Go.Shelf
/-! are lists the same -/
theorem take_eq {α : Type} {l l' : List α} {i : Nat} {a b : α} (h : l.take i = l'.take i) (ha : l[i]? = some a) (hb : l'[i]? = some b) (he : a = b) : l.take (i + 1) = l'.take (i + 1) := by
  rw [List.take_add_one, List.take_add_one, h, ha, hb, he]
theorem take_ne {α : Type} {l l' : List α} {i : Nat} {a b : α} (ha : l[i]? = some a) (hb : l'[i]? = some b) (he : a ≠ b) : l ≠ l' := fun e => by
  rw [e, hb] at ha
  cases ha
  exact he rfl
set_option maxRecDepth 100000 in
theorem eq_hdr (a b : Hdr) (w : World) : (Op.equalIn 10000 25 (hV a) (hV b)).run Tryz.prog w = .ok (a == b) w := by
  have h1 : Tryz.prog.stoodInHeld 25 = false := by kernel_rfl
  rw [run_equalIn_struct w 9999 25 _ _ (by simp [go_sem]) h1]
  simp [go_sem]
  obtain ⟨a1, a2⟩ := a
  obtain ⟨b1, b2⟩ := b
  by_cases h1 : a1 = b1
  · by_cases h2 : a2 = b2
    · simp [h1, h2]
    · simp [h1, h2]
  · simp [h1]
theorem neq_hdr (a b : Hdr) (w : World) : (binOp .neq 25 (hV a) (hV b)).run Tryz.prog w = .ok (.bool (!(a == b))) w := by
  rw [run_neq_struct, eq_hdr]; rfl
theorem eql_hdr (a b : Hdr) (w : World) : (binOp .eql 25 (hV a) (hV b)).run Tryz.prog w = .ok (.bool (a == b)) w := by
  rw [run_eql_struct, eq_hdr]; rfl
def SmP {α : Type} [DecidableEq α] (l l' : List α) (w : World) (e : Ending) (w' : World) : Prop := e = .returned (.bool (decide (l = l'))) ∧ Kept w w'
set_option maxRecDepth 100000 in
set_option maxHeartbeats 4000000 in
theorem rsameH_any (l l' : List Hdr) (v v' : Value) (w : World) (h : HRd v l w) (h' : HRd v' l' w) (hl : l.length ≤ 1000000) (hl' : l'.length ≤ 1000000) :
    Calls Tryz.prog 9 #[v, v'] w (SmP l l' w) := by
  obtain ⟨a, c, hv⟩ := h.slice
  obtain ⟨a', c', hv'⟩ := h'.slice
  subst hv hv'
  have HA := Lib.hid h; have HB := Lib.hid h'
  clear h h'
  by_cases hlen : l.length = l'.length
  · have bl : ((l.length : Int) == l'.length) = true := by simp [hlen]
    have bl2 : ((l.length : Int) != l'.length) = false := by simp [hlen]
    have HL := Lib.hid hlen
    clear hlen
    go_enter Tryz.func9, Tryz.ntmps9
    go_wp2_with fail
    go_loopw [5] (fun vi wr => ∃ i : Nat, i ≤ l.length ∧ vi = .int .i64 i ∧ Hid (Kept w wr) ∧ Hid (l.take i = l'.take i)) (fun vi _ => l.length - (intOf vi).toNat)
    case atStart => exact ⟨0, Nat.zero_le _, rfl, Lib.hid (Kept.refl w), Lib.hid rfl⟩
    case round =>
      obtain ⟨i, hi, rfl, hK, hT⟩ := hrel
      by_cases hlt : i < l.length
      · have hltI : (i : Int) < l.length := by omega
        have hltJ : (i : Int) < l'.length := by have := HL.out; omega
        obtain ⟨u, hu⟩ : ∃ u, l[i]? = some u := ⟨_, List.getElem?_eq_getElem hlt⟩
        obtain ⟨u', hu'⟩ : ∃ u', l'[i]? = some u' := ⟨_, List.getElem?_eq_getElem (by rw [← HL.out]; exact hlt)⟩
        obtain ⟨ga, oa, ca, hpa, hca, p0, p1⟩ := (HA.out.kept hK.out).at hu
        obtain ⟨gb, ob, cb, hpb, hcb, q0, q1⟩ := (HB.out.kept hK.out).at hu'
        injection hpa with ea _ ec
        subst ea ec
        injection hpb with ea _ ec
        subst ea ec
        have hneq := neq_hdr u u'
        have HU := Lib.hid (fun (q : u ≠ u') => take_ne hu hu' q)
        have HUT := Lib.hid (fun (q : u = u') => take_eq hT.out hu hu' q)
        clear hu hu' hT
        by_cases huu : u = u'
        · have bu : (u == u') = true := by simp [huu]
          have HN2 := Lib.hid (HUT.out huu)
          rw [bu] at hneq
          clear huu bu HU HUT
          go_upto_region 6 with (fail)
          go_quiet (fail)
          have K2 := Lib.hid (hK.out.drewN nq)
          clear hK p0 p1 q0 q1
          go_wp2
          go_roundw
          case rel => exact ⟨i + 1, hlt, by go_num, K2, HN2⟩
          case measure => simp [intOf]; omega
        · have bu : (u == u') = false := by simp [huu]
          rw [bu] at hneq
          have hbad : l ≠ l' := HU.out huu
          clear huu bu HU HUT
          go_upto_region 6 with (fail)
          go_quiet (fail)
          have Z := Lib.hid (show SmP l l' w (.returned (.bool false)) (wr.drewN nq) from ⟨by rw [decide_eq_false hbad], hK.out.drewN nq⟩)
          clear hK p0 p1 q0 q1
          go_wp2
          go_ret
          exact Z.out
      · have hltI : ¬ (i : Int) < l.length := by omega
        have Z := Lib.hid (show SmP l l' w (.returned (.bool true)) wr from ⟨by
          have := hT.out
          rw [List.take_of_length_le (by omega), List.take_of_length_le (by rw [← HL.out]; omega)] at this
          rw [decide_eq_true this], hK.out⟩)
        clear hT hK
        go_wp2
        go_ret
        exact Z.out
  · have bl : ((l.length : Int) == l'.length) = false := by rw [beq_eq_false_iff_ne]; omega
    have bl2 : ((l.length : Int) != l'.length) = true := by simp; omega
    have Z := Lib.hid (show SmP l l' w (.returned (.bool false)) w from ⟨by rw [decide_eq_false (fun e => hlen (by rw [e]))], Kept.refl _⟩)
    clear hlen
    go_enter Tryz.func9, Tryz.ntmps9
    go_wp2
    go_ret
    exact Z.out
end Go.Proofs.YtdhhlcgmkkpldaaGreatDoor.Hd
