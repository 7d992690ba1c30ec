/- The document's own answers of layer xml: the end of an element. -/
import Derived.Test.YtknggeplnffegaaGreatDoorXmM
set_option linter.unusedVariables false
namespace Go.Proofs.YtknggeplnffegaaGreatDoor
open Go.ChangeShapes Go.WideShapes Go.ChangeAt Go.RowKit
open En Xm
theorem last_of {o : List B} (h : o ≠ []) : o[o.length - 1]? = o.getLast? := by rw [List.getLast?_eq_getElem?]
theorem own_some {w : World} {B0 : Nat} {e : TypeId} {size : Nat} {v : Value} {n : Nat} {xs : List Value} (h : w.ownsRow B0 e size v n xs) (hn : n ≠ 0) : ∃ g cap, v = .slice (some ⟨g, 0, none⟩) n cap ∧ n ≤ cap ∧ cap ≤ maxLen := by
  rcases h.2 with ⟨_, h2⟩ | ⟨g, cap, _, h1, _, _, h2, h3, _⟩
  · exact absurd h2 hn
  · exact ⟨g, cap, h1, h2, h3⟩
/-- a piece that is put behind, and other open elements -/
theorem RS.setO {B0 b : Nat} {s : B} {at0 : Nat} {n : Nat} {l : List Tk} {e : Int} {ov lv v' : Value} {w : World} {o' : List B} (hB : B0 ≤ b) (hB2 : B0 ≤ w.heap.size) (hR : Rd b s at0 ov n lv e w) (hO : OwnS B0 v' o' w) (hT : TokO B0 lv l w) :
    Rd b s at0 v' n lv e (w.setCell ⟨b, 2, none⟩ v') ∧ OwnS B0 v' o' (w.setCell ⟨b, 2, none⟩ v') ∧ TokO B0 lv l (w.setCell ⟨b, 2, none⟩ v') ∧ B0 ≤ (w.setCell ⟨b, 2, none⟩ v').heap.size :=
  ⟨hR.setO v', hO.keep ((Ob.refl b w).set 2 v').grown (NoRow.of hR (by decide)), hT.keep ((Ob.refl b w).set 2 v').grown (NoRow.of hR (by decide)) (NoRow.of hR (by decide)), by simpa [World.setCell] using hB2⟩
/-- the end of an element -/
def ClP (B0 b : Nat) (s nm : B) (at0 : Nat) (o : List B) (n : Nat) (l : List Tk) (e : Int) (w : World) (r : Ending) (w' : World) : Prop :=
  r = .returned (.tuple #[]) ∧ Below B0 w w' ∧ if o.getLast? = some nm then RS B0 b s at0 o.dropLast n (l ++ [tC nm]) e w' else RS B0 b s at0 o n l (er1 e 2) w'
set_option maxRecDepth 100000 in
set_option maxHeartbeats 4000000 in
theorem rclose_any (B0 b : Nat) (s nm : B) (at0 : Nat) (o : List B) (n : Nat) (l : List Tk) (e : Int) (w : World) (h : RS B0 b s at0 o n l e w) (hl : l.length ≤ 1000000) (hol : o.length ≤ 1000) :
    Calls Tryz.prog 58 #[pV b, sV nm] w (ClP B0 b s nm at0 o n l e w) := by
  obtain ⟨hB, hB2, ov, lv, hR, hO, hT⟩ := h
  obtain ⟨c0, c1, c2, c3, c4, c5⟩ := hR.cs
  by_cases ho : o = []
  · subst ho
    obtain ⟨oa, oc, hov⟩ := own_slice hO
    rw [hov] at c2
    have H := Lib.hid (And.intro hR (And.intro hO hT))
    clear hR hO hT
    go_enter Tryz.func58, Tryz.ntmps58
    go_wp2_with fail
    refine (rfail_any b s at0 ov n lv e 2 _ H.out.1).mono ?_
    rintro r w1 ⟨rfl, h1, o1⟩
    have h2 := Lib.hid (RS.ob hB hB2 H.out.1 H.out.2.1 H.out.2.2 o1 h1)
    have hb := Lib.hid (o1.below hB hB2)
    clear h1 o1 H c0 c1 c2 c3 c4 c5
    go_wp2
    refine bodyPost_ret (results_none rfl _ _ _) rfl ?_
    refine ⟨rfl, hb.out, ?_⟩
    rw [if_neg (by simp)]
    exact h2.out
  have hlen : o.length ≠ 0 := fun e => ho (List.length_eq_zero_iff.1 e)
  obtain ⟨g, cap, hov, hcap, hcm⟩ := own_some hO hlen
  obtain ⟨x, hx⟩ : ∃ x, o.getLast? = some x := ⟨o.getLast ho, List.getLast?_eq_some_getLast ho⟩
  subst hov
  have hcl : w.cell? ⟨g, o.length - 1, none⟩ = some (sV x) := by
    rw [World.ownsRow.cellAt hO (o.length - 1) (by omega), List.getElem?_map, last_of ho, hx]; rfl
  have hne0 : ((o.length : Int) == 0) = false := by simp; exact ho
  by_cases hnm : x = nm
  · subst hnm
    have HX := Lib.hid hx
    obtain ⟨i0, hi, hz0, hz1, hz2⟩ := info_parts infoS
    obtain ⟨j0, hj, hy0, hy1, hy2⟩ := info_parts infoT
    have hnl : ((o.length : Int) - 1) = ((o.length - 1 : Nat) : Int) := by omega
    have hcells : ∀ (j : Nat) (u : Value), (o.dropLast.map sV)[j]? = some u → w.cell? ((⟨g, 0, none⟩ : Addr).add j) = some u := by
      intro j u hu
      have hjl : j < o.length - 1 := by
        have := (List.getElem?_eq_some_iff.1 hu).1
        simpa using this
      have e1 := World.ownsRow.cells hO (g := g) rfl j u (by
        rw [List.getElem?_map] at hu ⊢
        rw [List.getElem?_dropLast, if_pos hjl] at hu
        exact hu)
      exact e1
    have H := Lib.hid (And.intro hR (And.intro hO hT))
    have hsl : ∀ W : World, (Instr.slice 40 (.slice (some ⟨g, 0, none⟩) o.length cap) none (some (iV ((o.length : Int) - 1))) none).run Tryz.prog W = .ok (.slice (some ⟨g, 0, none⟩) (o.length - 1) cap) W := fun W => by
      rw [run_slice_h W 40 _ _ _ (by kernel_rfl) .i64 _ (by omega) (by omega), hnl, Int.toNat_natCast, show Tryz.prog.elem 40 = 9 by kernel_rfl]
      simp [sliced, Result.andThen]
      intro _
      rfl
    clear hR hO hT hx
    go_enter Tryz.func58, Tryz.ntmps58
    go_upto_region 3 with (fail)
    go_wp2_with (at_builtin; refine wpList_append_own _ rfl _ _ 40 rfl B0 9 i0 _ 1 16 Tryz.underlying40 hi hz0 hz1 hz2 rfl (by decide) _ 0 [] rfl (World.ownsRow_nil _ _ _ _) ⟨g, 0, none⟩ (o.length - 1) cap (o.dropLast.map sV) rfl ?n1 hcells ?n2 ?n3 ?n4 ?n5 ?_)
    case n1 => simp
    case n2 => intro u hu; rw [List.mem_map] at hu; obtain ⟨y, _, rfl⟩ := hu; rfl
    case n3 => unfold maxLen; omega
    case n4 => omega
    case n5 => exact hB2
    intro v' w7 hown' hgrow _
    obtain ⟨hR0, hO0, hT0⟩ := H.out
    have hR7 := hR0.grow hgrow NoRow.none
    have hT7 := hT0.keep hgrow NoRow.none NoRow.none
    have hO7 : OwnS B0 v' o.dropLast w7 := by
      unfold OwnS
      rw [List.length_dropLast]
      simpa using hown'
    have hb7 : Below B0 w w7 := (Below.refl B0 w).grown hgrow hB2 (fun k hk => by cases hk)
    have hB7 : B0 ≤ w7.heap.size := Nat.le_trans hB2 hgrow.size
    obtain ⟨hR8, hO8, hT8, hB8⟩ := RS.setO hB hB7 hR7 hO7 hT7
    have hb8 := hb7.setCell (p := ⟨b, 2, none⟩) hB v'
    have g2 := hR7.fz 2
    obtain ⟨ao, cp, rfl⟩ := own_slice hown'
    obtain ⟨d0, d1, d2, d3, d4, d5⟩ := hR7.cs
    clear hR0 hO0 hT0 hT7 hO7 hb7 hown' hgrow c0 c1 c2 c3 c4 c5 hcl
    go_upto_region 5 with (fail)
    generalize w7.setCell ⟨b, 2, none⟩ (.slice ao (o.length - 1) cp) = W8 at *
    clear hR7 g2 d0 d1 d2 d3 d4 d5
    obtain ⟨vs, hvs, hT8', hA8⟩ := hT8
    have x1 := World.grownBy_alloc W8 (.cells #[iV 1, sV x, sV [], .slice none 0 0] 38) none
    have hTx := Lib.hid (World.ownsRow.alloc hT8' (.cells #[iV 1, sV x, sV [], .slice none 0 0] 38))
    have hAx := Lib.hid (hA8.keep x1 NoRow.none)
    have hRx := Lib.hid (hR8.kept ((Kept.refl W8).alloc (.cells #[iV 1, sV x, sV [], .slice none 0 0] 38)))
    have hOx := Lib.hid (hO8.keep x1 NoRow.none)
    have hbx := Lib.hid (hb8.alloc hB8 (.cells #[iV 1, sV x, sV [], .slice none 0 0] 38))
    obtain ⟨c0, c1, c2, c3, c4, c5⟩ := hR8.cs
    clear hR8 hO8 hT8' hA8 hb8 x1
    go_wp2_with (at_builtin; refine wpList_append_own _ rfl _ _ 24 rfl B0 38 j0 _ 4 64 Tryz.underlying24 hj hy0 hy1 hy2 rfl (by decide) _ _ _ rfl hTx.out ⟨W8.heap.size, 0, none⟩ 1 1 [iV 1, sV x, sV [], .slice none 0 0] rfl rfl ?n1 ?n2 ?n3 ?n4 ?n5 ?_)
    case n1 =>
      intro j u hj
      match j, hj with
      | 0, hj => simp at hj; subst hj; simp [Addr.add]
      | 1, hj => simp at hj; subst hj; simp [Addr.add]
      | 2, hj => simp at hj; subst hj; simp [Addr.add]
      | 3, hj => simp at hj; subst hj; simp [Addr.add]
    case n2 => intro u hu; simp at hu; rcases hu with rfl | rfl | rfl | rfl <;> rfl
    case n3 => unfold maxLen; omega
    case n4 => omega
    case n5 => simp; omega
    intro v' w7 hown' hgrow _
    obtain ⟨f1, f2⟩ := push_fin (t := tC x) hB (by simp; omega) hRx.out hOx.out hvs hTx.out hAx.out (AtsO.nil B0 _) hgrow hown'
    obtain ⟨ao', cap', rfl⟩ := own_slice hown'
    have hR9 := hRx.out.grow hgrow (NoRow.own hTx.out (by decide))
    have g4 := hR9.fz 4
    obtain ⟨d0, d1, d2, d3, d4, d5⟩ := hR9.cs
    have Z := Lib.hid (And.intro f1 (hbx.out.trans f2))
    clear f1 f2 hRx hOx hTx hAx hbx hgrow hown' c0 c1 c2 c3 c4 c5
    go_wp2
    go_end0
    refine ⟨rfl, Z.out.2, ?_⟩
    rw [if_pos HX.out]
    exact Z.out.1
  · have hxb : (x == nm) = false := by simpa using hnm
    have H := Lib.hid (And.intro hR (And.intro hO hT))
    clear hR hO hT
    go_enter Tryz.func58, Tryz.ntmps58
    go_wp2_with fail
    refine (rfail_any b s at0 _ n lv e 2 _ H.out.1).mono ?_
    rintro r w1 ⟨rfl, h1, o1⟩
    have h2 := Lib.hid (RS.ob hB hB2 H.out.1 H.out.2.1 H.out.2.2 o1 h1)
    have hb := Lib.hid (o1.below hB hB2)
    clear h1 o1 H c0 c1 c2 c3 c4 c5
    go_wp2
    refine bodyPost_ret (results_none rfl _ _ _) rfl ?_
    refine ⟨rfl, hb.out, ?_⟩
    rw [hx, if_neg (by simpa using hnm)]
    exact h2.out
end Go.Proofs.YtknggeplnffegaaGreatDoor
