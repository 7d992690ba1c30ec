/- The document's answer for package head: where the header ends that bytes begin with. -/
import Derived.Test.YtgpocnnolieijaaGreatDoorHdSb
set_option linter.unusedSimpArgs false
set_option linter.unusedVariables false
namespace Go.Proofs.YtgpocnnolieijaaGreatDoor.Hd
open Go.ChangeShapes Go.WideShapes Go.ChangeAt Go.RowKit Go.Shelf
/-- what 'end' answers -/
def eI (o : Option Nat) : Int := match o with | none => -1 | some n => n
theorem endF_cons {x : UInt8} {r : B} (h : ¬ ∃ t, x :: r = 13 :: 10 :: t ∧ t.head? ≠ some 32) : endF (x :: r) = (endF r).map (· + 1) := by
  by_cases q : ∃ t, x :: r = 13 :: 10 :: t
  · obtain ⟨t, ht⟩ := q
    have h32 : t.head? = some 32 := by
      by_cases e : t.head? = some 32
      · exact e
      · exact absurd ⟨t, ht, e⟩ h
    rw [ht, endF, if_pos h32]
    injection ht with _ hr
    rw [hr, endF_ne _ (by decide), map_add _ _ _ _ rfl]
  · rw [endF]
    intro t e1 e2
    exact q ⟨t, by rw [e1, e2]⟩
section
variable {l : B} {j : Nat} {x y z : UInt8}
theorem end_x (hx : l[j]? = some x) (h : ¬ (x.toNat : Int) = 13) : endF (l.drop j) = (endF (l.drop (j + 1))).map (· + 1) := by
  rw [drop_at hx]
  refine endF_cons ?_
  rintro ⟨t, ht, _⟩
  injection ht with h1 _
  exact h (by rw [h1]; rfl)
theorem end_y (hx : l[j]? = some x) (hy : l[j + 1]? = some y) (h : ¬ (y.toNat : Int) = 10) : endF (l.drop j) = (endF (l.drop (j + 1))).map (· + 1) := by
  rw [drop_at hx]
  refine endF_cons ?_
  rintro ⟨t, ht, _⟩
  rw [drop_at hy] at ht
  injection ht with _ h1
  injection h1 with h1 _
  exact h (by rw [h1]; rfl)
theorem end_z (hx : l[j]? = some x) (hy : l[j + 1]? = some y) (hz : l[j + 1 + 1]? = some z) (h : (z.toNat : Int) = 32) : endF (l.drop j) = (endF (l.drop (j + 1))).map (· + 1) := by
  rw [drop_at hx]
  refine endF_cons ?_
  rintro ⟨t, ht, h2⟩
  rw [drop_at hy, drop_at hz] at ht
  injection ht with _ h1
  injection h1 with _ h1
  rw [← h1] at h2
  exact h2 (by rw [UInt8.toNat_inj.1 (show z.toNat = (32 : UInt8).toNat by rw [show (32 : UInt8).toNat = 32 from rfl]; omega)]; rfl)
theorem end_hit (hx : l[j]? = some x) (hy : l[j + 1]? = some y) (h1 : (x.toNat : Int) = 13) (h2 : (y.toNat : Int) = 10) (hz : ∀ z, l[j + 1 + 1]? = some z → ¬ (z.toNat : Int) = 32) : endF (l.drop j) = some 2 := by
  obtain rfl : x = 13 := UInt8.toNat_inj.1 (show x.toNat = (13 : UInt8).toNat by rw [show (13 : UInt8).toNat = 13 from rfl]; omega)
  obtain rfl : y = 10 := UInt8.toNat_inj.1 (show y.toNat = (10 : UInt8).toNat by rw [show (10 : UInt8).toNat = 10 from rfl]; omega)
  rw [drop_at hx, drop_at hy, endF, if_neg]
  intro e
  rw [List.head?_drop] at e
  exact hz 32 e rfl
theorem end_short (h : l.length < j + 2) : endF (l.drop j) = none := by
  have hl : (l.drop j).length ≤ 1 := by rw [List.length_drop]; omega
  cases he : endF (l.drop j) with
  | none => rfl
  | some i =>
    have := endF_bd _ _ (Nat.le_refl _) i he
    omega
theorem end_more {n : Nat} (h : endF l = (endF (l.drop j)).map (· + j)) (hs : endF (l.drop j) = (endF (l.drop (j + 1))).map (· + 1)) : endF l = (endF (l.drop (j + 1))).map (· + (j + 1)) := by
  rw [h, hs, map_add _ _ _ _ (show j + 1 = 1 + j by omega)]
end
set_option maxRecDepth 100000 in
set_option maxHeartbeats 2000000 in
theorem rend_any (v : Value) (l : B) (w : World) (hR : BRd v l w) (hl : l.length ≤ 1000000) : Calls Tryz.prog 61 #[v] w fun e w' => e = .returned (.int .i64 (eI (endF l))) ∧ w' = w := by
  obtain ⟨va, vc, hvv⟩ := hR.slice
  subst hvv
  have R0 := Lib.hid hR
  clear hR
  go_enter Tryz.func61, Tryz.ntmps61
  go_wp2_with fail
  go_loopw [3] (fun vi wr => ∃ j : Nat, j ≤ l.length ∧ vi = .int .i64 ((j : Int) + 2) ∧ Hid (endF l = (endF (l.drop j)).map (· + j)) ∧ Hid (wr = w)) (fun vi _ => l.length + 2 - (intOf vi).toNat)
  case atStart => exact ⟨0, Nat.zero_le _, rfl, Lib.hid (by rw [List.drop_zero]; cases endF l <;> rfl), Lib.hid rfl⟩
  case round =>
    obtain ⟨j, hj, rfl, hF, hW⟩ := hrel
    obtain rfl := hW.out.symm
    clear hW
    by_cases hlt : j + 2 ≤ l.length
    · have hltI : (j : Int) + 2 ≤ l.length := by omega
      have hj0 : (j : Int) < l.length := by omega
      have hj1 : (j : Int) + 1 < l.length := by omega
      obtain ⟨x, hx⟩ : ∃ x, l[j]? = some x := ⟨_, List.getElem?_eq_getElem (by omega)⟩
      obtain ⟨y, hy⟩ : ∃ y, l[j + 1]? = some y := ⟨_, List.getElem?_eq_getElem (by omega)⟩
      obtain ⟨g, o, c, hv', hcp, cell⟩ := R0.out.at hx
      injection hv' with ea _ ec
      subst ea ec
      obtain ⟨g2, o2, c2, hv', _, cell1⟩ := R0.out.at hy
      injection hv' with ea _ ec
      have hq := Option.some.inj ea
      injection hq with e1 e2
      subst e1 e2 ec
      have a1 : (j : Int) + 2 - 2 = j := by omega
      have a2 : (j : Int) + 2 - 1 = j + 1 := by omega
      by_cases h13 : (x.toNat : Int) = 13
      · by_cases h10 : (y.toNat : Int) = 10
        · rw [h13] at cell
          rw [h10] at cell1
          by_cases he : l.length = j + 2
          · have HS := Lib.hid (show endF l = some (j + 2) by rw [hF.out, end_hit hx hy h13 h10 (fun z hz => by have := (List.getElem?_eq_some_iff.1 hz).1; omega)]; simp; omega)
            have heI : (l.length : Int) = j + 2 := by omega
            have heB : ((j : Int) + 2 == (l.length : Int)) = true := beq_iff_eq.2 heI.symm
            clear hx hy h13 h10 hF
            go_wp2_with fail
            go_ret
            exact ⟨by rw [HS.out]; rfl, rfl⟩
          · obtain ⟨z, hz⟩ : ∃ z, l[j + 1 + 1]? = some z := ⟨_, List.getElem?_eq_getElem (by omega)⟩
            obtain ⟨g2, o2, c2, hv', _, cell2⟩ := R0.out.at hz
            injection hv' with ea _ ec
            have hq := Option.some.inj ea
            injection hq with e1 e2
            subst e1 e2 ec
            rw [show j + 1 + 1 = j + 2 from rfl] at cell2
            have hj2 : (j : Int) + 2 < l.length := by omega
            have heB : ((j : Int) + 2 == (l.length : Int)) = false := beq_eq_false_iff_ne.2 (by omega)
            by_cases h32 : (z.toNat : Int) = 32
            · have HS := Lib.hid (end_more (n := 0) hF.out (end_z hx hy hz h32))
              rw [h32] at cell2
              clear hx hy hz h13 h10 h32 hF
              go_wp2_with fail
              go_roundw
              case rel => exact ⟨j + 1, by omega, by go_num, HS, Lib.hid trivial⟩
              case measure => simp [intOf]; omega
            · have HS := Lib.hid (show endF l = some (j + 2) by rw [hF.out, end_hit hx hy h13 h10 (fun z' hz' => by rw [hz] at hz'; cases hz'; exact h32)]; simp; omega)
              have b32 : ((z.toNat : Int) == 32) = false := beq_eq_false_iff_ne.2 h32
              clear hx hy hz h13 h10 h32 hF
              go_wp2_with fail
              go_ret
              exact ⟨by rw [HS.out]; rfl, rfl⟩
        · have HS := Lib.hid (end_more (n := 0) hF.out (end_y hx hy h10))
          have b10 : ((y.toNat : Int) == 10) = false := beq_eq_false_iff_ne.2 h10
          rw [h13] at cell
          clear hx hy h13 h10 hF
          go_wp2_with fail
          go_roundw
          case rel => exact ⟨j + 1, by omega, by go_num, HS, Lib.hid trivial⟩
          case measure => simp [intOf]; omega
      · have HS := Lib.hid (end_more (n := 0) hF.out (end_x hx h13))
        have b13 : ((x.toNat : Int) == 13) = false := beq_eq_false_iff_ne.2 h13
        clear hx hy h13 hF
        go_wp2_with fail
        go_roundw
        case rel => exact ⟨j + 1, by omega, by go_num, HS, Lib.hid trivial⟩
        case measure => simp [intOf]; omega
    · have hltI : ¬ (j : Int) + 2 ≤ l.length := by omega
      have HS := Lib.hid (show endF l = none by rw [hF.out, end_short (by omega)]; rfl)
      clear hF
      go_wp2_with fail
      go_ret
      exact ⟨by rw [HS.out]; rfl, rfl⟩
end Go.Proofs.YtgpocnnolieijaaGreatDoor.Hd
