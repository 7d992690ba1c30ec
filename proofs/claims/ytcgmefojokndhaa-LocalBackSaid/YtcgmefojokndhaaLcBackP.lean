/- What LocalBack leans on: a second is among those of its day and time there; each of these tells it. -/
import Derived.Test.YtcgmefojokndhaaLcAll
namespace Go.Proofs.Ytcgmefojokndhaa
open Go.ChangeShapes Go.WideShapes Go.ChangeAt Go.RowKit
open Civ Zn Lc
theorem offP_in (z : Zo) (t : Int) : offP z t ∈ offsL z := by
  unfold offP offY offsL
  by_cases h : z.has = true
  · rw [if_pos h]
    by_cases q : z.ahead = z.off
    · rw [if_neg (by simp [q])]
      split <;> simp [q]
    · rw [if_pos ⟨h, q⟩]
      simp only [List.mem_cons, List.not_mem_nil, or_false]
      split <;> omega
  · rw [if_neg h, if_neg (by simp [h])]
    simp
theorem mem_ofL {z : Zo} {t : Int} (h : scB t = true) : t ∈ ofL z (t + offP z t) := by
  unfold ofL
  rw [List.mem_flatMap]
  refine ⟨offP z t, offP_in z t, ?_⟩
  unfold pick
  rw [show t + offP z t - offP z t = t by omega, if_pos ⟨h, rfl⟩]
  simp
theorem ofL_mem {z : Zo} {n t : Int} (h : t ∈ ofL z n) : scB t = true ∧ t + offP z t = n := by
  unfold ofL at h
  rw [List.mem_flatMap] at h
  obtain ⟨o, _, ho⟩ := h
  unfold pick at ho
  split at ho
  · rename_i q
    simp only [List.mem_cons, List.not_mem_nil, or_false] at ho
    subst ho
    exact ⟨q.1, by omega⟩
  · cases ho
theorem ofL_len (z : Zo) (n : Int) : (ofL z n).length ≤ 2 := by
  have := part_len z n (offsL z).length (Nat.le_refl _)
  rw [part_all] at this
  have := offs_len z
  omega
theorem ofL_rise {z : Zo} {n a b : Int} (h0 : (ofL z n)[0]? = some a) (h1 : (ofL z n)[1]? = some b) : a < b := by
  have hl := ofL_len z n
  unfold ofL offsL at h0 h1
  split at h0
  · rename_i q
    rw [if_pos q] at h1
    simp only [List.flatMap_cons, List.flatMap_nil, List.append_nil] at h0 h1
    unfold pick at h0 h1
    by_cases p1 : scB (n - max z.off z.ahead) = true ∧ offP z (n - max z.off z.ahead) = max z.off z.ahead
    · by_cases p2 : scB (n - min z.off z.ahead) = true ∧ offP z (n - min z.off z.ahead) = min z.off z.ahead
      · simp only [if_pos p1, if_pos p2] at h0 h1
        simp at h0 h1
        have := q.2
        omega
      · simp only [if_pos p1, if_neg p2] at h0 h1
        simp at h1
    · by_cases p2 : scB (n - min z.off z.ahead) = true ∧ offP z (n - min z.off z.ahead) = min z.off z.ahead
      · simp only [if_neg p1, if_pos p2] at h0 h1
        simp at h1
      · simp only [if_neg p1, if_neg p2] at h0 h1
        simp at h1
  · rename_i q
    rw [if_neg q] at h1
    simp only [List.flatMap_cons, List.flatMap_nil, List.append_nil] at h0 h1
    have := pick_len z n z.off
    rw [List.getElem?_eq_none (by omega)] at h1
    cases h1
theorem tm_at (t : Int) : tmB (t % 86400 / 3600) (t % 3600 / 60) (t % 60) = true := by
  unfold tmB; simp; omega
/-- what a second's day and time there is, where it may be asked for -/
theorem at_back {z : Zo} {t : Int} (h : AtOk z t) (hD : Day ((t + offP z t) / 86400)) (y1 : 1970 ≤ (atS z t).y) (y2 : (atS z t).y ≤ 9998) : ofE z (atS z t) = 0 ∧ t ∈ ofS z (atS z t) := by
  have ho := h.1; unfold oOk at ho; rw [Bool.and_eq_true] at ho
  have e : atS z t = ⟨yr ((t + offP z t) / 86400), mo ((t + offP z t) / 86400), dy ((t + offP z t) / 86400), (t + offP z t) % 86400 / 3600, (t + offP z t) % 3600 / 60, (t + offP z t) % 60⟩ := by unfold atS; rw [if_pos h]
  have ok : CivOk z (atS z t) := ⟨ho.1, by rw [e]; exact hD.1, by rw [e]; exact tm_at _, y1, y2⟩
  have hn : sixN (atS z t) = t + offP z t := by rw [e]; exact sec_at _ hD
  unfold ofE ofS
  rw [if_pos ok, if_pos ok, hn]
  exact ⟨rfl, mem_ofL ho.2⟩
/-- each second of a day and time tells it -/
theorem of_back {z : Zo} {c : Six} {t : Int} (hc : CivOk z c) (h : t ∈ ofS z c) : AtOk z t ∧ atS z t = c := by
  unfold ofS at h
  rw [if_pos hc] at h
  obtain ⟨h1, h2⟩ := ofL_mem h
  obtain ⟨e, k⟩ := cv_sec hc.2.1 hc.2.2.1
  have ok : AtOk z t := ⟨by unfold oOk; rw [hc.1, h1]; rfl, by rw [h2]; exact k⟩
  refine ⟨ok, ?_⟩
  unfold atS
  rw [if_pos ok, h2]
  obtain ⟨e1, e2, e3, e4, e5, e6⟩ := e
  show Six.mk _ _ _ _ _ _ = c
  have q : sixN c = sec c.y c.m c.d c.h c.i c.s := rfl
  rw [q, e1, e2, e3, e4, e5, e6]
end Go.Proofs.Ytcgmefojokndhaa
