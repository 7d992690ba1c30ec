/- Two slices that hold the same integers. -/
import Derived.Test.YtcgmefojokndhaaLcRefF
namespace Go.Proofs.Ytcgmefojokndhaa
open Go.ChangeShapes Go.WideShapes Go.ChangeAt Go.RowKit
open Civ Zn Lc
theorem Out.at {B : Nat} {v : Value} {l : List Int} {x : World} (h : Out B v l x) {k : Nat} (hk : k < l.length) : ∃ g cap, v = .slice (some ⟨g, 0, none⟩) l.length cap ∧ ∀ (j : Nat) (n : Int), l[j]? = some n → x.cell? ⟨g, j, none⟩ = some (.int .i64 n) := by
  rcases h.2 with ⟨_, h2⟩ | ⟨g, cap, cur, h1, h2⟩
  · omega
  · refine ⟨g, cap, h1, fun j n hj => ?_⟩
    have hc := World.ownsRow.cells h (g := g) (by rw [h1]; rfl) j (.int .i64 n) (by simp [hj])
    have ha : ((⟨g, 0, none⟩ : Addr).add j) = ⟨g, j, none⟩ := by simp [Addr.add]; omega
    rw [ha] at hc
    exact hc
theorem Out.kept' {B : Nat} {v : Value} {l : List Int} {x x' : World} (h : Out B v l x) (k : Kept x x') : Out B v l x' :=
  World.ownsRow.kept h (k.grownBy none) (by cases hv : v.ownBlock <;> simp)
set_option maxRecDepth 100000 in
set_option maxHeartbeats 2000000 in
theorem ints_yes {B1 B2 : Nat} {v1 v2 : Value} {l : List Int} (w : World) (h1 : Out B1 v1 l w) (h2 : Out B2 v2 l w) :
    Calls Try.prog 21 #[v1, v2] w fun e w' => e = .returned (.bool true) ∧ Kept w w' := by
  obtain ⟨a1, c1, e1⟩ : ∃ ao cap, v1 = .slice ao l.length cap := by
    rcases h1.2 with ⟨q1, q2⟩ | ⟨g, cap, _, q1, _⟩
    · exact ⟨none, 0, by rw [q1, q2]⟩
    · exact ⟨_, _, q1⟩
  obtain ⟨a2, c2, e2⟩ : ∃ ao cap, v2 = .slice ao l.length cap := by
    rcases h2.2 with ⟨q1, q2⟩ | ⟨g, cap, _, q1, _⟩
    · exact ⟨none, 0, by rw [q1, q2]⟩
    · exact ⟨_, _, q1⟩
  have H1 := Lib.hid h1; have H2 := Lib.hid h2
  subst e1 e2
  have hl : l.length ≤ maxLen := by
    rcases h1.2 with ⟨q1, q2⟩ | ⟨g, cap, _, q1, _, _, q2, q3, _⟩
    · unfold maxLen; omega
    · omega
  unfold maxLen at hl
  clear h1 h2
  go_enter Try.func21, Try.ntmps21
  go_wp2_with fail
  go_loopw [5] (fun i y => ∃ k : Nat, k ≤ l.length ∧ i = .int .i64 k ∧ Kept w y) (fun i _ => l.length - (intOf i).toNat)
  case atStart => exact ⟨0, Nat.zero_le _, rfl, Kept.refl _⟩
  case round =>
    obtain ⟨k, hk, rfl, hkp⟩ := hrel
    by_cases hlt : k < l.length
    · obtain ⟨g1, p1, q1, r1⟩ := (H1.out.kept' hkp).at hlt
      obtain ⟨g2, p2, q2, r2⟩ := (H2.out.kept' hkp).at hlt
      obtain ⟨n, hn⟩ : ∃ n, l[k]? = some n := ⟨_, List.getElem?_eq_getElem hlt⟩
      have s1 := r1 k n hn
      have s2 := r2 k n hn
      simp only [Value.slice.injEq] at q1 q2
      obtain ⟨rfl, _, rfl⟩ := q1
      obtain ⟨rfl, _, rfl⟩ := q2
      have HP := Lib.hid hkp
      clear hkp r1 r2 hn H1 H2
      go_wp2_with fail
      go_region_held3 (fun y => Kept w y ∧ y.cell? ⟨g1, k, none⟩ = some (.int .i64 n) ∧ y.cell? ⟨g2, k, none⟩ = some (.int .i64 n)) (first | exact ⟨HP.out.drew, s1, s2⟩ | assumption) (fail)
      have KK := (by assumption : Kept w _ ∧ _).1
      go_wp2
      go_roundw
      case rel => exact ⟨k + 1, hlt, by go_num, KK⟩
      case measure => simp [intOf]; omega
    · have : k = l.length := by omega
      go_wp2
      go_ret
      exact ⟨rfl, hkp⟩
end Go.Proofs.Ytcgmefojokndhaa
