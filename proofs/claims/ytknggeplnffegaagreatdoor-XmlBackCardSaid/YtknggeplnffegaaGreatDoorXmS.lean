/- The document's own answers of layer xml: an element's beginning, read. -/
import Derived.Test.YtknggeplnffegaaGreatDoorXmP
import Derived.Deep.CutBlock
import Derived.Deep.CutRange
import Derived.Deep.RegionHeld3
set_option linter.unusedVariables false
namespace Go.Proofs.YtknggeplnffegaaGreatDoor
open Go.ChangeShapes Go.WideShapes Go.ChangeAt Go.RowKit
open En Xm
theorem Bt.other {k j : Nat} {nm : B} {xa : Value} {w : World} (h : Bt k nm xa w) (hne : k ≠ j) (i : Nat) (v : Value) : Bt k nm xa (w.setCell ⟨j, i, none⟩ v) := (Below.heap_setCell _ _ _ _ hne).trans h
theorem lv_lt {B0 b : Nat} {s : B} {at0 : Nat} {o : List B} {n : Nat} {l : List Tk} {e : Int} {w : World} {ov lv : Value} (h : RS B0 b s at0 o n l e w) (hR : Rd b s at0 ov n lv e w) : ∀ g, lv.ownBlock = some g → g < w.heap.size := by
  obtain ⟨_, _, ov', lv', hR', _, vs, _, h2, _⟩ := h
  have : lv' = lv := by
    have h1 := hR'.cs.2.2.2.2.1
    rw [hR.cs.2.2.2.2.1] at h1
    cases h1; rfl
  subst this
  exact fun g hg => (World.ownsRow.lt h2 g hg).2
theorem tagEnd_two {y : B} (h : tagEnd y = true) : (∃ v, y = 62 :: v) ∨ (∃ v, y = 47 :: 62 :: v) := by
  unfold tagEnd at h
  split at h
  · exact Or.inl ⟨_, rfl⟩
  · exact Or.inr ⟨_, rfl⟩
  · cases h
theorem drop_len {s v : B} {a : Nat} (h : s.drop a = v) (ha : a ≤ s.length) : s.length - v.length = a := by
  have := congrArg List.length h
  rw [List.length_drop] at this
  omega
theorem drop_tl {s v : B} {a : Nat} {c : UInt8} (h : s.drop a = c :: v) : s.drop (a + 1) = v ∧ a + 1 ≤ s.length := by
  have h1 := congrArg List.length h
  rw [List.length_drop, List.length_cons] at h1
  refine ⟨?_, by omega⟩
  rw [← List.drop_drop, h]; rfl
/-- behind the attributes: all that the rest leans on -/
structure Sx (B0 b k : Nat) (s nm : B) (at2 : Nat) (ov : Value) (o : List B) (n : Nat) (lv : Value) (l : List Tk) (xa : Value) (acc : List Atr) (w W : World) : Prop where
  h : Rd b s at2 ov n lv 0 W
  t : Bt k nm xa W
  a : AtsO B0 xa acc W
  o : OwnS B0 ov o W
  l : TokO B0 lv l W
  z : Below B0 w W
  s : B0 ≤ W.heap.size
theorem Sx.kept {B0 b k : Nat} {s nm : B} {at2 : Nat} {ov : Value} {o : List B} {n : Nat} {lv : Value} {l : List Tk} {xa : Value} {acc : List Atr} {w W W' : World} (h : Sx B0 b k s nm at2 ov o n lv l xa acc w W) (q : Kept W W') : Sx B0 b k s nm at2 ov o n lv l xa acc w W' :=
  ⟨h.h.kept q, h.t.kept q, h.a.kept q, h.o.keep (q.grownBy none) NoRow.none, h.l.keep (q.grownBy none) NoRow.none NoRow.none, h.z.grown (q.grownBy none) h.s (fun k hk => by cases hk), Nat.le_trans h.s q.size⟩
theorem Sx.grow {B0 b k : Nat} {s nm : B} {at2 : Nat} {ov : Value} {o : List B} {n : Nat} {lv : Value} {l : List Tk} {xa : Value} {acc : List Atr} {w W W' : World} {v : Value} {m : Nat} {xs : List Value} (h : Sx B0 b k s nm at2 ov o n lv l xa acc w W) (hv : W.ownsRow B0 9 1 v m xs) (hg : W.grownBy W' v.ownBlock) (hov : ∀ g, v.ownBlock = some g → ov.ownBlock ≠ some g) : Sx B0 b k s nm at2 ov o n lv l xa acc w W' :=
  ⟨h.h.grow hg (NoRow.own hv (by decide)), h.t.grow hg (NoRow.own hv (by decide)), own_keep h.a hg (NoRow.own hv (by decide)), World.ownsRow.kept h.o hg (by
    cases hq : ov.ownBlock with
    | none => exact Or.inl rfl
    | some g => exact Or.inr (fun e => hov g e.symm hq)), h.l.keep hg (NoRow.own hv (by decide)) (NoRow.own hv (by decide)), h.z.grown hg h.s (fun k hk => (World.ownsRow.lt hv k hk).1), Nat.le_trans h.s hg.size⟩
theorem Sx.gn {B0 b k : Nat} {s nm : B} {at2 : Nat} {ov : Value} {o : List B} {n : Nat} {lv : Value} {l : List Tk} {xa : Value} {acc : List Atr} {w W W' : World} (h : Sx B0 b k s nm at2 ov o n lv l xa acc w W) (q : W.grownBy W' none) : Sx B0 b k s nm at2 ov o n lv l xa acc w W' :=
  ⟨h.h.grow q NoRow.none, h.t.grow q NoRow.none, own_keep h.a q NoRow.none, h.o.keep q NoRow.none, h.l.keep q NoRow.none NoRow.none, h.z.grown q h.s (fun k hk => by cases hk), Nat.le_trans h.s q.size⟩
/-- other open elements -/
theorem Sx.setO {B0 b k : Nat} {s nm : B} {at2 : Nat} {ov v' : Value} {o o' : List B} {n : Nat} {lv : Value} {l : List Tk} {xa : Value} {acc : List Atr} {w W : World} (h : Sx B0 b k s nm at2 ov o n lv l xa acc w W) (hB : B0 ≤ b) (hk : k ≠ b) (hO : OwnS B0 v' o' W) : Sx B0 b k s nm at2 v' o' n lv l xa acc w (W.setCell ⟨b, 2, none⟩ v') :=
  ⟨h.h.setO v', h.t.other hk 2 v', own_keep h.a ((Ob.refl b W).set 2 v').grown (NoRow.of h.h (by decide)), hO.keep ((Ob.refl b W).set 2 v').grown (NoRow.of h.h (by decide)), h.l.keep ((Ob.refl b W).set 2 v').grown (NoRow.of h.h (by decide)) (NoRow.of h.h (by decide)), h.z.setCell (p := ⟨b, 2, none⟩) hB v', by simpa [World.setCell] using h.s⟩
theorem Sx.setN {B0 b k : Nat} {s nm : B} {at2 : Nat} {ov : Value} {o : List B} {n n' : Nat} {lv : Value} {l : List Tk} {xa : Value} {acc : List Atr} {w W : World} (h : Sx B0 b k s nm at2 ov o n lv l xa acc w W) (hB : B0 ≤ b) (hk : k ≠ b) : Sx B0 b k s nm at2 ov o n' lv l xa acc w (W.setCell ⟨b, 3, none⟩ (iV n')) :=
  ⟨h.h.setN n', h.t.other hk 3 _, own_keep h.a ((Ob.refl b W).set 3 _).grown (NoRow.of h.h (by decide)), h.o.keep ((Ob.refl b W).set 3 _).grown (NoRow.of h.h (by decide)), h.l.keep ((Ob.refl b W).set 3 _).grown (NoRow.of h.h (by decide)) (NoRow.of h.h (by decide)), h.z.setCell (p := ⟨b, 3, none⟩) hB _, by simpa [World.setCell] using h.s⟩
theorem Sx.rs {B0 b k : Nat} {s nm : B} {at2 : Nat} {ov : Value} {o : List B} {n : Nat} {lv : Value} {l : List Tk} {xa : Value} {acc : List Atr} {w W : World} (h : Sx B0 b k s nm at2 ov o n lv l xa acc w W) (hB : B0 ≤ b) : RS B0 b s at2 o n l 0 W := ⟨hB, h.s, ov, lv, h.h, h.o, h.l⟩
theorem RS.setA {B0 b : Nat} {s : B} {a a' : Nat} {o : List B} {n : Nat} {l : List Tk} {e : Int} {w : World} (h : RS B0 b s a o n l e w) : ∃ ov lv, Rd b s a ov n lv e w ∧ RS B0 b s a' o n l e (w.setCell ⟨b, 1, none⟩ (iV a')) ∧ Below B0 w (w.setCell ⟨b, 1, none⟩ (iV a')) := by
  obtain ⟨ov, lv, hR, _, hb⟩ := h.of
  obtain ⟨q1, q2⟩ := hb a' n e _ (hR.setAt a') ((Ob.refl b w).set 1 (iV a'))
  exact ⟨ov, lv, hR, q1, q2⟩
/-- copied, and one more: a slice of texts -/
theorem pushed_ne {B0 : Nat} {v v1 : Value} {ls ls1 : List B} {W W' : World} (h : OwnS B0 v ls W) (hg : W.grownBy W' none) (h1 : OwnS B0 v1 ls1 W') (hnew : ∀ g, v1.ownBlock = some g → W.heap.size ≤ g) : ∀ g, v1.ownBlock = some g → v.ownBlock ≠ some g := fun g hg1 hg2 => by
  have := (World.ownsRow.lt h g hg2).2
  have := hnew g hg1
  omega
set_option maxRecDepth 100000 in
set_option maxHeartbeats 16000000 in
theorem ropening_any (B0 b : Nat) (s : B) (at0 : Nat) (o : List B) (n : Nat) (l : List Tk) (w : World) (h : RS B0 b s at0 o n l 0 w) (ha : at0 + 1 ≤ s.length) (hs : s.length ≤ 1000000) (hl : l.length ≤ 900000) (hol : o.length ≤ 900) (hn : n ≤ 1000000) :
    Calls Tryz.prog 41 #[pV b] w (StP B0 b s (openS ⟨s.drop at0, o, n, l⟩) w) := by
  have h0 := h
  obtain ⟨ov, lv, hR0, ⟨oa, oc, hov⟩, hback⟩ := h.of
  have HB := Lib.hid hback
  have HLT := Lib.hid (lv_lt h0 hR0)
  have HRS := Lib.hid h0
  have hbl := hR0.lt
  obtain ⟨c0, c1, c2, c3, c4, c5⟩ := hR0.cs
  have f1 := hR0.fz 1
  have H1 := Lib.hid (hR0.setAt (at0 + 1))
  have O1 := Lib.hid ((Ob.refl b w).set 1 (iV ((at0 + 1 : Nat) : Int)))
  clear c2 c3 c4 c5 hback h h0 hR0
  go_enter Tryz.func41, Tryz.ntmps41
  go_wp2_with fail
  refine (rtname_any b s (at0 + 1) ov n lv 0 _ H1.out ha hs).mono ?_
  rintro r w2 ⟨o2, rfl, h2⟩
  have O2 := O1.out.trans o2
  obtain ⟨hy, hyl⟩ := nm_drop (s.drop (at0 + 1)) s (at0 + 1) rfl ha
  have HOS := Lib.hid (show openS ⟨s.drop at0, o, n, l⟩ = (if isN (nmS (s.drop (at0 + 1))).1 = true then
      (match atrs ((nmS (s.drop (at0 + 1))).2.length + 1) (nmS (s.drop (at0 + 1))).2 [] with
      | none => .er 2
      | some (as0, u) => if o = [] ∧ 1 ≤ n then .er 2 else if 20 < o.length + 1 then .er 5 else
          match u with
          | 62 :: v => .ok ⟨v, o ++ [(nmS (s.drop (at0 + 1))).1], if o = [] then n + 1 else n, l ++ [tO (nmS (s.drop (at0 + 1))).1 as0]⟩
          | 47 :: 62 :: v => shut (nmS (s.drop (at0 + 1))).1 v ⟨[], o ++ [(nmS (s.drop (at0 + 1))).1], if o = [] then n + 1 else n, l ++ [tO (nmS (s.drop (at0 + 1))).1 as0]⟩
          | _ => .er 2) else .er 2) by
    unfold openS
    simp only [List.drop_drop]
    rfl)
  generalize (nmS (s.drop (at0 + 1))).1 = nm at *
  generalize (nmS (s.drop (at0 + 1))).2 = y at *
  have h2' : Rd b s (s.length - y.length) ov n lv (if isN nm = true then 0 else 2) w2 := by
    have : er1 0 2 = 2 := rfl
    rw [this] at h2; exact h2
  generalize hg1 : (if isN nm = true then (0 : Int) else 2) = e1 at h2'
  have HE1 := Lib.hid hg1.symm
  have k2 := (Kept.refl w2).alloc (.cells #[iV 0, sV nm, sV [], .slice none 0 0] 38)
  have hbt := bt_new w2 nm
  have hsw := O2.size
  have H3 := Lib.hid (h2'.kept k2)
  have O3 := Lib.hid (O2.kept k2)
  have T3 := Lib.hid hbt
  have HY := Lib.hid hy
  have A3 := Lib.hid (AtsO.nil w.heap.size (w2.alloc (.cells #[iV 0, sV nm, sV [], .slice none 0 0] 38)))
  have hat1 : s.length - y.length ≤ s.length := by omega
  clear h2 h2' hg1 o2 O2 k2 hbt H1 O1 c0 c1 f1 hy
  go_upto_block 0 with (fail)
  generalize w2.alloc (.cells #[iV 0, sV nm, sV [], .slice none 0 0] 38) = W3 at *
  go_cut [] from 3 to 75 (fun wx => ∃ (at2 : Nat) (acc : List Atr) (xa : Value) (e : Int), Hid (Rd b s at2 ov n lv e wx) ∧ Hid (Bt w2.heap.size nm xa wx) ∧ Hid (AtsO w.heap.size xa acc wx) ∧ Hid (Ob b w wx) ∧ at2 ≤ s.length ∧ acc.length ≤ s.length + 1 ∧ Hid ((e = 2 ∧ openS ⟨s.drop at0, o, n, l⟩ = .er 2) ∨ (e = 0 ∧ isN nm = true ∧ atrs (y.length + 1) y [] = some (acc, s.drop at2))))
  case rest =>
    obtain ⟨at2, acc, xa, e, hH, hT, hA, hO, hat2l, hacl, hE⟩ := hcut
    clear HE1 HY H3 O3 T3 A3 hyl hat1
    obtain ⟨c0, c1, c2, c3, c4, c5⟩ := hH.out.cs
    have hE2 := hE.out
    rcases hE2 with ⟨rfl, hre⟩ | ⟨rfl, hN, hAt⟩
    · obtain ⟨q1, q2⟩ := HB.out _ _ _ wc hH.out hO.out
      have Z := Lib.hid (And.intro q1 (And.intro q2 hre))
      clear HOS hE hH hT hA hO q1 q2 hre HRS HB c0 c1 c2 c3 c4
      go_wp2
      refine bodyPost_ret (results_none rfl _ _ _) rfl ?_
      refine ⟨rfl, Z.out.2.1, ?_⟩
      rw [Z.out.2.2]
      exact ⟨_, o, n, l, hat2l, Z.out.1⟩
    · have hte := (atrs_len _ _ _ _ _ hAt).2
      have HOP := Lib.hid (show openS ⟨s.drop at0, o, n, l⟩ = (if o = [] ∧ 1 ≤ n then .er 2 else if 20 < o.length + 1 then .er 5 else
          match s.drop at2 with
          | 62 :: v => .ok ⟨v, o ++ [nm], if o = [] then n + 1 else n, l ++ [tO nm acc]⟩
          | 47 :: 62 :: v => shut nm v ⟨[], o ++ [nm], if o = [] then n + 1 else n, l ++ [tO nm acc]⟩
          | _ => .er 2) by
        rw [HOS.out, if_pos hN, hAt]
        rfl)
      have HTE := Lib.hid (tagEnd_two hte)
      obtain ⟨hB, hB2, _⟩ := HRS.out
      obtain ⟨q1, q2⟩ := HB.out _ _ _ wc hH.out hO.out
      obtain ⟨_, hBc, ov1, lv1, hR1, hO1, hL1⟩ := q1
      have hlv : lv = lv1 := by
        have := hR1.cs.2.2.2.2.1
        rw [c4] at this
        cases this; rfl
      subst hlv
      have hkb : w2.heap.size ≠ b := by omega
      have hsc := hT.out.lt
      have S0 := Lib.hid (show Sx B0 b w2.heap.size s nm at2 ov1 o n lv l xa acc w wc from ⟨hR1, hT.out, own_mono hA.out hB2, hO1, hL1, q2, hBc⟩)
      clear HOS hE hH hT hA hO hte hAt q2 hR1 hO1 hL1 c0 c1 c2 c3 c4 HRS
      obtain ⟨oa1, oc1, hov1⟩ := own_slice S0.out.o
      subst hov1
      obtain ⟨_, _, c2, _, _, c5⟩ := S0.out.h.cs
      go_upto_if 86 with (fail)
      clear c2 c5
      generalize hq : ((o.length : Int) == 0) = q
      have HZ := Lib.hid hq
      clear hq
      go_cut [] from 87 to 100 (fun wx => Hid (Sx B0 b w2.heap.size s nm at2 (.slice oa1 o.length oc1) o (if o = [] then n + 1 else n) lv l xa acc w wx) ∧ Hid (¬ (o = [] ∧ 1 ≤ n)))
      case first =>
        obtain ⟨c0, c1, c2, c3, c4, c5⟩ := S0.out.h.cs
        have f3 := S0.out.h.fz 3
        cases q
        case true =>
          have ho : o = [] := by have := HZ.out; simpa using this
          have S1 : Hid (Sx B0 b w2.heap.size s nm at2 (.slice oa1 o.length oc1) o (n + 1) lv l xa acc w (wc.setCell ⟨b, 3, none⟩ (.int .i64 ((n : Int) + 1)))) := Lib.hid (S0.out.setN (n' := n + 1) hB hkb)
          by_cases hn1 : 1 ≤ n
          · have hgt : (1 : Int) < ((n + 1 : Nat) : Int) := by omega
            have HX := Lib.hid (show openS ⟨s.drop at0, o, n, l⟩ = .er 2 by rw [HOP.out, if_pos ⟨ho, hn1⟩])
            clear ho c2
            clear HOP HTE HB S0 c0 c1 c4 c5
            go_upto_region 19 with (fail)
            generalize wc.setCell ⟨b, 3, none⟩ (.int .i64 ((n : Int) + 1)) = W1 at *
            obtain ⟨d0, d1, d2, d3, d4, d5⟩ := S1.out.h.cs
            clear c3 f3 d0 d1 d2 d4 d5
            go_wp2_with fail
            refine (rfail_any b s at2 _ (n + 1) lv 0 2 _ S1.out.h).mono ?_
            rintro r w5 ⟨rfl, h5, o5⟩
            have R5 := RS.ob hB S1.out.s S1.out.h S1.out.o S1.out.l o5 h5
            have Z := Lib.hid (And.intro R5 (S1.out.z.trans (o5.below hB S1.out.s)))
            clear h5 o5 R5
            go_wp2
            refine bodyPost_ret (results_none rfl _ _ _) rfl ?_
            refine ⟨rfl, Z.out.2, ?_⟩
            rw [HX.out]
            exact ⟨_, _, _, _, hat2l, Z.out.1⟩
          · have hgt : ¬ (1 : Int) < (n : Int) + 1 := by omega
            have HQ := Lib.hid (show ¬ (o = [] ∧ 1 ≤ n) from fun q => hn1 q.2)
            have hif := Lib.hid (show (if o = [] then n + 1 else n) = n + 1 by rw [if_pos ho])
            clear ho c2
            clear HOP HTE HB S0 c0 c1 c4 c5
            go_upto_region 19 with (fail)
            generalize wc.setCell ⟨b, 3, none⟩ (.int .i64 ((n : Int) + 1)) = W1 at *
            obtain ⟨d0, d1, d2, d3, d4, d5⟩ := S1.out.h.cs
            clear c3 f3 d0 d1 d2 d4 d5
            go_wp2
            go_meet
            exact ⟨Lib.hid (by rw [hif.out]; exact S1.out), HQ⟩
        case false =>
          have ho : o ≠ [] := by have := HZ.out; simpa using this
          have hif := Lib.hid (show (if o = [] then n + 1 else n) = n by rw [if_neg ho])
          have HQ := Lib.hid (show ¬ (o = [] ∧ 1 ≤ n) from fun q => ho q.1)
          clear HOP HTE HB
          go_wp2
          go_meet
          exact ⟨Lib.hid (by rw [hif.out]; exact S0.out), HQ⟩
      case rest =>
        obtain ⟨S1, HQ⟩ := hcut
        have HOQ := Lib.hid (show openS ⟨s.drop at0, o, n, l⟩ = (if 20 < o.length + 1 then .er 5 else
          match s.drop at2 with
          | 62 :: v => .ok ⟨v, o ++ [nm], if o = [] then n + 1 else n, l ++ [tO nm acc]⟩
          | 47 :: 62 :: v => shut nm v ⟨[], o ++ [nm], if o = [] then n + 1 else n, l ++ [tO nm acc]⟩
          | _ => .er 2) by rw [HOP.out, if_neg HQ.out])
        clear HOP S0 HQ hsc
        have hn' : (if o = [] then n + 1 else n) ≤ 1000001 := by split <;> omega
        generalize (if o = [] then n + 1 else n) = n' at *
        go_wp2_with fail
        refine (rbegins_any b s [47, 62] at2 _ n' lv 0 _ S1.out.h hat2l hs (by simp)).mono ?_
        rintro r w4 ⟨rfl, k4⟩
        have S2 := Lib.hid (S1.out.kept k4)
        clear S1 k4
        generalize hqe : ([47, 62] : B).isPrefixOf (s.drop at2) = qe at *
        go_upto_region 22 with (fail)
        go_cut [] from 103 to 114 (fun wx => ∃ ov2 : Value, Hid (Sx B0 b w2.heap.size s nm at2 ov2 (o ++ [nm]) n' lv l xa acc w wx))
        case first =>
          obtain ⟨oaS, ocS⟩ : True ∧ True := ⟨trivial, trivial⟩
          clear oaS ocS
          have KD := (Kept.refl w4).drew
          have D0 := Lib.hid (S2.out.kept KD)
          have hk1 := S2.out.t.cs.2.1
          clear KD
          refine wp_region_held_drew (S := fun y => y.cell? ⟨w2.heap.size, 1, none⟩ = some (sV nm)) (by kernel_rfl) hk1 (fun hS0 => ?_)
          refine wpAnyH_take (i := 0) (oi := { dst := some 103, op := Go.Op.move (Go.Operand.tmp 0), type := 46, pos := "ref.go:219", after := #[], guard := none }) (v := ?vp0) rfl (by kernel_rfl) (by kernel_rfl) (by kernel_rfl) (fun _ _ _ h => h) (Or.inl ⟨by rfl, ?yp0⟩) (by assumption) ?rp0
          case yp0 => (intro wq hSw; (try dsimp only at hSw); go_simp; try with_reducible rfl)
          simp only [Act.put, List.setIfInBounds_toArray, List.set_cons_zero, List.set_cons_succ]
          refine wpAnyH_take (i := 1) (oi := { dst := some 104, op := Go.Op.move (Go.Operand.tmp 0), type := 46, pos := "ref.go:219", after := #[], guard := none }) (v := ?vp1) rfl (by kernel_rfl) (by kernel_rfl) (by kernel_rfl) (fun _ _ _ h => h) (Or.inl ⟨by rfl, ?yp1⟩) (by assumption) ?rp1
          case yp1 => (intro wq hSw; (try dsimp only at hSw); go_simp; try with_reducible rfl)
          simp only [Act.put, List.setIfInBounds_toArray, List.set_cons_zero, List.set_cons_succ]
          refine wpAnyH_take (i := 2) (oi := { dst := some 105, op := Go.Op.nilCheck (Go.Operand.tmp 104), type := 0, pos := "ref.go:219", after := #[{ on := 1, ground := Go.Ground.data }], guard := none }) (v := ?vp2) rfl (by kernel_rfl) (by kernel_rfl) (by kernel_rfl) (fun _ _ _ h => h) (Or.inl ⟨by rfl, ?yp2⟩) (by assumption) ?rp2
          case yp2 => (intro wq hSw; (try dsimp only at hSw); go_simp; try with_reducible rfl)
          simp only [Act.put, List.setIfInBounds_toArray, List.set_cons_zero, List.set_cons_succ]
          refine wpAnyH_take (i := 3) (oi := { dst := some 106, op := Go.Op.fieldAddr 48 (Go.Operand.tmp 105) 2, type := 0, pos := "ref.go:219", after := #[{ on := 2, ground := Go.Ground.data }], guard := none }) (v := ?vp3) rfl (by kernel_rfl) (by kernel_rfl) (by kernel_rfl) (fun _ _ _ h => h) (Or.inl ⟨by rfl, ?yp3⟩) (by assumption) ?rp3
          case yp3 => (intro wq hSw; (try dsimp only at hSw); go_simp; try with_reducible rfl)
          simp only [Act.put, List.setIfInBounds_toArray, List.set_cons_zero, List.set_cons_succ]
          refine wpAnyH_take (i := 6) (oi := { dst := some 109, op := Go.Op.fieldAddr 38 (Go.Operand.tmp 2) 1, type := 0, pos := "ref.go:219", after := #[], guard := none }) (v := ?vp6) rfl (by kernel_rfl) (by kernel_rfl) (by kernel_rfl) (fun _ _ _ h => h) (Or.inl ⟨by rfl, ?yp6⟩) (by assumption) ?rp6
          case yp6 => (intro wq hSw; (try dsimp only at hSw); go_simp; try with_reducible rfl)
          simp only [Act.put, List.setIfInBounds_toArray, List.set_cons_zero, List.set_cons_succ]
          refine wpAnyH_take (i := 7) (oi := { dst := some 110, op := Go.Op.load 9 (Go.Operand.tmp 109), type := 9, pos := "ref.go:219", after := #[{ on := 6, ground := Go.Ground.data }], guard := none }) (v := ?vp7) rfl (by kernel_rfl) (by kernel_rfl) (by kernel_rfl) (fun _ _ _ h => h) (Or.inl ⟨by rfl, ?yp7⟩) (by assumption) ?rp7
          case yp7 => (intro wq hSw; (try dsimp only at hSw); go_simp; try with_reducible rfl)
          simp only [Act.put, List.setIfInBounds_toArray, List.set_cons_zero, List.set_cons_succ]
          refine wpAnyH_ready (rs := [4, 8]) (by kernel_rfl) (by simp) (AllReadyH.cons (o := { dst := some 107, op := Go.Op.load 40 (Go.Operand.tmp 106), type := 40, pos := "ref.go:219", after := #[{ on := 3, ground := Go.Ground.data }], guard := none }) rfl (fun K hK => ?_) (AllReadyH.cons (o := { dst := some 111, op := Go.Op.buildSlice 40 1 #[(0, Go.Operand.tmp 110)], type := 40, pos := "ref.go:219", after := #[{ on := 7, ground := Go.Ground.data }], guard := none }) rfl (fun K hK => ?_) AllReadyH.nil))
          · have cO := D0.out.h.cs.2.2.1
            go_simp
            refine Shut.out hK _ _ D0.out.t.cs.2.1 (fun hSb => ?_)
            clear hK K
            try simp only [Act.put, List.setIfInBounds_toArray, List.set_cons_zero, List.set_cons_succ]
            clear cO
            refine wpAnyH_ready (rs := [5, 8]) (by kernel_rfl) (by simp) (AllReadyH.cons (o := { dst := some 108, op := Go.Op.call { callee := Go.Callee.builtin Go.Builtin.append, args := #[Go.Operand.const (Go.Value.slice none 0 0), Go.Operand.tmp 107], argTypes := #[40, 40] }, type := 40, pos := "ref.go:219", after := #[{ on := 4, ground := Go.Ground.data }], guard := none }) rfl (fun K hK => ?_) (AllReadyH.cons (o := { dst := some 111, op := Go.Op.buildSlice 40 1 #[(0, Go.Operand.tmp 110)], type := 40, pos := "ref.go:219", after := #[{ on := 7, ground := Go.Ground.data }], guard := none }) rfl (fun K hK => ?_) AllReadyH.nil))
            · rw [if_pos (by rfl)]
              refine wp_copyS (.const (.slice none 0 0)) (.tmp 107) rfl rfl B0 _ o (by rfl) D0.out.o (by omega) ?_
              intro v1 WA1 hv1 hg1
              have fresh : ∀ g, v1.ownBlock = some g → w4.drew.heap.size ≤ g := fun g hg => (World.ownsRow.lt hv1 g hg).1
              have hne1 := pushed_ne D0.out.o hg1 (own_mono hv1 D0.out.s) fresh
              have DA1 := Lib.hid (D0.out.gn hg1)
              have CA1 : Hid (OwnS B0 v1 o WA1) := Lib.hid (own_mono hv1 D0.out.s)
              obtain ⟨xa1, xc1, hx1⟩ := own_slice hv1
              subst hx1
              refine Shut.out hK _ _ DA1.out.t.cs.2.1 (fun hSb => ?_)
              clear hK K
              try simp only [Act.put, List.setIfInBounds_toArray, List.set_cons_zero, List.set_cons_succ]
              clear hv1 hg1 fresh
              refine wpAnyH_ready (rs := [8]) (by kernel_rfl) (by simp) (AllReadyH.cons (o := { dst := some 111, op := Go.Op.buildSlice 40 1 #[(0, Go.Operand.tmp 110)], type := 40, pos := "ref.go:219", after := #[{ on := 7, ground := Go.Ground.data }], guard := none }) rfl (fun K hK => ?_) AllReadyH.nil)
              go_simp
              obtain ⟨WA2, hWA2⟩ : ∃ WA2, WA2 = WA1.alloc (.cells #[sV nm] 9) := ⟨_, rfl⟩
              have kx : Kept WA1 WA2 := by rw [hWA2]; exact (Kept.refl WA1).alloc (.cells #[sV nm] 9)
              have QA := Lib.hid (show WA2.heap[WA1.heap.size]? = some (.cells #[sV nm] 9 (0, 0)) by rw [hWA2]; show (WA1.heap.push _)[WA1.heap.size]? = _; simp)
              have DA2 := Lib.hid (DA1.out.kept kx)
              have CA2 := Lib.hid (CA1.out.keep (kx.grownBy none) NoRow.none)
              rw [← hWA2]
              refine Shut.out hK _ _ DA2.out.t.cs.2.1 (fun hSb => ?_)
              clear hK K
              try simp only [Act.put, List.setIfInBounds_toArray, List.set_cons_zero, List.set_cons_succ]
              clear hWA2 kx
              refine wpAnyH_ready (rs := [9]) (by kernel_rfl) (by simp) (AllReadyH.cons (o := { dst := some 112, op := Go.Op.call { callee := Go.Callee.builtin Go.Builtin.append, args := #[Go.Operand.tmp 108, Go.Operand.tmp 111], argTypes := #[40, 40] }, type := 40, pos := "ref.go:219", after := #[{ on := 5, ground := Go.Ground.data }, { on := 8, ground := Go.Ground.data }, { on := 5, ground := Go.Ground.chain }], guard := none }) rfl (fun K hK => ?_) AllReadyH.nil)
              rw [if_pos (by rfl)]
              have cb : WA2.cell? ⟨WA1.heap.size, 0, none⟩ = some (sV nm) := by
                have := QA.out
                simp [World.cell?, this]
              refine wp_pushS (.tmp 108) (.tmp 111) rfl B0 _ o nm WA1.heap.size (by rfl) CA2.out (by rfl) cb (by omega) DA2.out.s ?_
              intro v2 W9 hv2 hg2
              have D9 := Lib.hid (DA2.out.grow CA2.out hg2 hne1)
              obtain ⟨xa2, xc2, hx2⟩ := own_slice hv2
              subst hx2
              have V2 := Lib.hid hv2
              refine Shut.out hK _ _ D9.out.t.cs.2.1 (fun hSb => ?_)
              clear hK K
              try simp only [Act.put, List.setIfInBounds_toArray, List.set_cons_zero, List.set_cons_succ]
              clear hv2 hg2 cb hne1
              refine wpAnyH_take (i := 10) (oi := { dst := some 113, op := Go.Op.nilCheck (Go.Operand.tmp 103), type := 0, pos := "ref.go:219", after := #[{ on := 0, ground := Go.Ground.data }, { on := 0, ground := Go.Ground.phase }, { on := 1, ground := Go.Ground.phase }, { on := 2, ground := Go.Ground.phase }, { on := 3, ground := Go.Ground.phase }, { on := 4, ground := Go.Ground.phase }, { on := 5, ground := Go.Ground.phase }, { on := 6, ground := Go.Ground.phase }, { on := 7, ground := Go.Ground.phase }, { on := 8, ground := Go.Ground.phase }, { on := 9, ground := Go.Ground.phase }], guard := none }) (v := ?va10) rfl (by kernel_rfl) (by kernel_rfl) (by kernel_rfl) (fun _ _ _ h => h) (Or.inl ⟨by rfl, ?ya10⟩) (by assumption) ?ra10
              case ya10 => (intro wq hSw; (try dsimp only at hSw); go_simp; try with_reducible rfl)
              simp only [Act.put, List.setIfInBounds_toArray, List.set_cons_zero, List.set_cons_succ]
              refine wpAnyH_take (i := 11) (oi := { dst := some 114, op := Go.Op.fieldAddr 48 (Go.Operand.tmp 113) 2, type := 0, pos := "ref.go:219", after := #[{ on := 10, ground := Go.Ground.data }, { on := 0, ground := Go.Ground.phase }, { on := 1, ground := Go.Ground.phase }, { on := 2, ground := Go.Ground.phase }, { on := 3, ground := Go.Ground.phase }, { on := 4, ground := Go.Ground.phase }, { on := 5, ground := Go.Ground.phase }, { on := 6, ground := Go.Ground.phase }, { on := 7, ground := Go.Ground.phase }, { on := 8, ground := Go.Ground.phase }, { on := 9, ground := Go.Ground.phase }], guard := none }) (v := ?va11) rfl (by kernel_rfl) (by kernel_rfl) (by kernel_rfl) (fun _ _ _ h => h) (Or.inl ⟨by rfl, ?ya11⟩) (by assumption) ?ra11
              case ya11 => (intro wq hSw; (try dsimp only at hSw); go_simp; try with_reducible rfl)
              simp only [Act.put, List.setIfInBounds_toArray, List.set_cons_zero, List.set_cons_succ]
              obtain ⟨z0, z1, z2, z3, z4, z5⟩ := D9.out.h.cs
              have zf := D9.out.h.fz 2
              have E9 := Lib.hid (D9.out.setO hB hkb V2.out)
              rw [List.length_append] at E9
              refine wpAnyH_ready (rs := [12]) (by kernel_rfl) (by simp) (AllReadyH.cons (o := { dst := none, op := Go.Op.store 40 (Go.Operand.tmp 114) (Go.Operand.tmp 112), type := 0, pos := "ref.go:219", after := #[{ on := 11, ground := Go.Ground.data }, { on := 9, ground := Go.Ground.data }, { on := 9, ground := Go.Ground.chain }, { on := 0, ground := Go.Ground.phase }, { on := 1, ground := Go.Ground.phase }, { on := 2, ground := Go.Ground.phase }, { on := 3, ground := Go.Ground.phase }, { on := 4, ground := Go.Ground.phase }, { on := 5, ground := Go.Ground.phase }, { on := 6, ground := Go.Ground.phase }, { on := 7, ground := Go.Ground.phase }, { on := 8, ground := Go.Ground.phase }, { on := 9, ground := Go.Ground.phase }], guard := none }) rfl (fun K hK => ?_) AllReadyH.nil)
              go_simp
              refine Shut.out hK _ _ E9.out.t.cs.2.1 (fun hSb => ?_)
              clear hK K
              try simp only [Act.put, List.setIfInBounds_toArray, List.set_cons_zero, List.set_cons_succ]
              refine wpAnyH_done (by kernel_rfl) ?_ _
              clear z0 z1 z2 z3 z4 z5 zf D9 V2 hk1 hS0
              generalize W9.setCell ⟨b, 2, none⟩ (.slice xa2 (o.length + 1) xc2) = W10 at *
              go_wp2
              go_meet
              exact ⟨_, E9⟩
            · go_simp
              obtain ⟨WB1, hWB1⟩ : ∃ WB1, WB1 = (w4.alloc (.cells #[sV nm] 9)).drew := ⟨_, rfl⟩
              have kx : Kept w4.drew WB1 := by rw [hWB1]; exact (Kept.refl w4.drew).alloc (.cells #[sV nm] 9)
              have QB := Lib.hid (show WB1.heap[w4.heap.size]? = some (.cells #[sV nm] 9 (0, 0)) by rw [hWB1]; show (w4.heap.push _)[w4.heap.size]? = _; simp)
              have DB1 := Lib.hid (D0.out.kept kx)
              rw [← hWB1]
              refine Shut.out hK _ _ DB1.out.t.cs.2.1 (fun hSb => ?_)
              clear hK K
              try simp only [Act.put, List.setIfInBounds_toArray, List.set_cons_zero, List.set_cons_succ]
              clear hWB1 kx
              refine wpAnyH_ready (rs := [5]) (by kernel_rfl) (by simp) (AllReadyH.cons (o := { dst := some 108, op := Go.Op.call { callee := Go.Callee.builtin Go.Builtin.append, args := #[Go.Operand.const (Go.Value.slice none 0 0), Go.Operand.tmp 107], argTypes := #[40, 40] }, type := 40, pos := "ref.go:219", after := #[{ on := 4, ground := Go.Ground.data }], guard := none }) rfl (fun K hK => ?_) AllReadyH.nil)
              rw [if_pos (by rfl)]
              refine wp_copyS (.const (.slice none 0 0)) (.tmp 107) rfl rfl B0 _ o (by rfl) DB1.out.o (by omega) ?_
              intro v1 WB2 hv1 hg1
              have fresh : ∀ g, v1.ownBlock = some g → WB1.heap.size ≤ g := fun g hg => (World.ownsRow.lt hv1 g hg).1
              have hne1 := pushed_ne DB1.out.o hg1 (own_mono hv1 DB1.out.s) fresh
              have DB2 := Lib.hid (DB1.out.gn hg1)
              have CB2 : Hid (OwnS B0 v1 o WB2) := Lib.hid (own_mono hv1 DB1.out.s)
              have QBb := Lib.hid ((hg1.block _ (Array.getElem?_eq_some_iff.1 QB.out).1 (by simp)).trans QB.out)
              obtain ⟨xa1, xc1, hx1⟩ := own_slice hv1
              subst hx1
              refine Shut.out hK _ _ DB2.out.t.cs.2.1 (fun hSb => ?_)
              clear hK K
              try simp only [Act.put, List.setIfInBounds_toArray, List.set_cons_zero, List.set_cons_succ]
              clear hv1 hg1 fresh
              refine wpAnyH_ready (rs := [9]) (by kernel_rfl) (by simp) (AllReadyH.cons (o := { dst := some 112, op := Go.Op.call { callee := Go.Callee.builtin Go.Builtin.append, args := #[Go.Operand.tmp 108, Go.Operand.tmp 111], argTypes := #[40, 40] }, type := 40, pos := "ref.go:219", after := #[{ on := 5, ground := Go.Ground.data }, { on := 8, ground := Go.Ground.data }, { on := 5, ground := Go.Ground.chain }], guard := none }) rfl (fun K hK => ?_) AllReadyH.nil)
              rw [if_pos (by rfl)]
              have cb : WB2.cell? ⟨w4.heap.size, 0, none⟩ = some (sV nm) := by
                have := QBb.out
                simp [World.cell?, this]
              refine wp_pushS (.tmp 108) (.tmp 111) rfl B0 _ o nm w4.heap.size (by rfl) CB2.out (by rfl) cb (by omega) DB2.out.s ?_
              intro v2 W9 hv2 hg2
              have D9 := Lib.hid (DB2.out.grow CB2.out hg2 hne1)
              obtain ⟨xa2, xc2, hx2⟩ := own_slice hv2
              subst hx2
              have V2 := Lib.hid hv2
              refine Shut.out hK _ _ D9.out.t.cs.2.1 (fun hSb => ?_)
              clear hK K
              try simp only [Act.put, List.setIfInBounds_toArray, List.set_cons_zero, List.set_cons_succ]
              clear hv2 hg2 cb hne1
              refine wpAnyH_take (i := 10) (oi := { dst := some 113, op := Go.Op.nilCheck (Go.Operand.tmp 103), type := 0, pos := "ref.go:219", after := #[{ on := 0, ground := Go.Ground.data }, { on := 0, ground := Go.Ground.phase }, { on := 1, ground := Go.Ground.phase }, { on := 2, ground := Go.Ground.phase }, { on := 3, ground := Go.Ground.phase }, { on := 4, ground := Go.Ground.phase }, { on := 5, ground := Go.Ground.phase }, { on := 6, ground := Go.Ground.phase }, { on := 7, ground := Go.Ground.phase }, { on := 8, ground := Go.Ground.phase }, { on := 9, ground := Go.Ground.phase }], guard := none }) (v := ?vb10) rfl (by kernel_rfl) (by kernel_rfl) (by kernel_rfl) (fun _ _ _ h => h) (Or.inl ⟨by rfl, ?yb10⟩) (by assumption) ?rb10
              case yb10 => (intro wq hSw; (try dsimp only at hSw); go_simp; try with_reducible rfl)
              simp only [Act.put, List.setIfInBounds_toArray, List.set_cons_zero, List.set_cons_succ]
              refine wpAnyH_take (i := 11) (oi := { dst := some 114, op := Go.Op.fieldAddr 48 (Go.Operand.tmp 113) 2, type := 0, pos := "ref.go:219", after := #[{ on := 10, ground := Go.Ground.data }, { on := 0, ground := Go.Ground.phase }, { on := 1, ground := Go.Ground.phase }, { on := 2, ground := Go.Ground.phase }, { on := 3, ground := Go.Ground.phase }, { on := 4, ground := Go.Ground.phase }, { on := 5, ground := Go.Ground.phase }, { on := 6, ground := Go.Ground.phase }, { on := 7, ground := Go.Ground.phase }, { on := 8, ground := Go.Ground.phase }, { on := 9, ground := Go.Ground.phase }], guard := none }) (v := ?vb11) rfl (by kernel_rfl) (by kernel_rfl) (by kernel_rfl) (fun _ _ _ h => h) (Or.inl ⟨by rfl, ?yb11⟩) (by assumption) ?rb11
              case yb11 => (intro wq hSw; (try dsimp only at hSw); go_simp; try with_reducible rfl)
              simp only [Act.put, List.setIfInBounds_toArray, List.set_cons_zero, List.set_cons_succ]
              obtain ⟨z0, z1, z2, z3, z4, z5⟩ := D9.out.h.cs
              have zf := D9.out.h.fz 2
              have E9 := Lib.hid (D9.out.setO hB hkb V2.out)
              rw [List.length_append] at E9
              refine wpAnyH_ready (rs := [12]) (by kernel_rfl) (by simp) (AllReadyH.cons (o := { dst := none, op := Go.Op.store 40 (Go.Operand.tmp 114) (Go.Operand.tmp 112), type := 0, pos := "ref.go:219", after := #[{ on := 11, ground := Go.Ground.data }, { on := 9, ground := Go.Ground.data }, { on := 9, ground := Go.Ground.chain }, { on := 0, ground := Go.Ground.phase }, { on := 1, ground := Go.Ground.phase }, { on := 2, ground := Go.Ground.phase }, { on := 3, ground := Go.Ground.phase }, { on := 4, ground := Go.Ground.phase }, { on := 5, ground := Go.Ground.phase }, { on := 6, ground := Go.Ground.phase }, { on := 7, ground := Go.Ground.phase }, { on := 8, ground := Go.Ground.phase }, { on := 9, ground := Go.Ground.phase }], guard := none }) rfl (fun K hK => ?_) AllReadyH.nil)
              go_simp
              refine Shut.out hK _ _ E9.out.t.cs.2.1 (fun hSb => ?_)
              clear hK K
              try simp only [Act.put, List.setIfInBounds_toArray, List.set_cons_zero, List.set_cons_succ]
              refine wpAnyH_done (by kernel_rfl) ?_ _
              clear z0 z1 z2 z3 z4 z5 zf D9 V2 hk1 hS0
              generalize W9.setCell ⟨b, 2, none⟩ (.slice xa2 (o.length + 1) xc2) = W10 at *
              go_wp2
              go_meet
              exact ⟨_, E9⟩
          · go_simp
            obtain ⟨WC1, hWC1⟩ : ∃ WC1, WC1 = (w4.alloc (.cells #[sV nm] 9)).drew := ⟨_, rfl⟩
            have kx : Kept w4.drew WC1 := by rw [hWC1]; exact (Kept.refl w4.drew).alloc (.cells #[sV nm] 9)
            have QC := Lib.hid (show WC1.heap[w4.heap.size]? = some (.cells #[sV nm] 9 (0, 0)) by rw [hWC1]; show (w4.heap.push _)[w4.heap.size]? = _; simp)
            have DC1 := Lib.hid (D0.out.kept kx)
            rw [← hWC1]
            refine Shut.out hK _ _ DC1.out.t.cs.2.1 (fun hSb => ?_)
            clear hK K
            try simp only [Act.put, List.setIfInBounds_toArray, List.set_cons_zero, List.set_cons_succ]
            clear hWC1 kx
            refine wpAnyH_ready (rs := [4]) (by kernel_rfl) (by simp) (AllReadyH.cons (o := { dst := some 107, op := Go.Op.load 40 (Go.Operand.tmp 106), type := 40, pos := "ref.go:219", after := #[{ on := 3, ground := Go.Ground.data }], guard := none }) rfl (fun K hK => ?_) AllReadyH.nil)
            have cO := DC1.out.h.cs.2.2.1
            go_simp
            refine Shut.out hK _ _ DC1.out.t.cs.2.1 (fun hSb => ?_)
            clear hK K
            try simp only [Act.put, List.setIfInBounds_toArray, List.set_cons_zero, List.set_cons_succ]
            clear cO
            refine wpAnyH_ready (rs := [5]) (by kernel_rfl) (by simp) (AllReadyH.cons (o := { dst := some 108, op := Go.Op.call { callee := Go.Callee.builtin Go.Builtin.append, args := #[Go.Operand.const (Go.Value.slice none 0 0), Go.Operand.tmp 107], argTypes := #[40, 40] }, type := 40, pos := "ref.go:219", after := #[{ on := 4, ground := Go.Ground.data }], guard := none }) rfl (fun K hK => ?_) AllReadyH.nil)
            rw [if_pos (by rfl)]
            refine wp_copyS (.const (.slice none 0 0)) (.tmp 107) rfl rfl B0 _ o (by rfl) DC1.out.o (by omega) ?_
            intro v1 WC2 hv1 hg1
            have fresh : ∀ g, v1.ownBlock = some g → WC1.heap.size ≤ g := fun g hg => (World.ownsRow.lt hv1 g hg).1
            have hne1 := pushed_ne DC1.out.o hg1 (own_mono hv1 DC1.out.s) fresh
            have DC2 := Lib.hid (DC1.out.gn hg1)
            have CC2 : Hid (OwnS B0 v1 o WC2) := Lib.hid (own_mono hv1 DC1.out.s)
            have QCb := Lib.hid ((hg1.block _ (Array.getElem?_eq_some_iff.1 QC.out).1 (by simp)).trans QC.out)
            obtain ⟨xa1, xc1, hx1⟩ := own_slice hv1
            subst hx1
            refine Shut.out hK _ _ DC2.out.t.cs.2.1 (fun hSb => ?_)
            clear hK K
            try simp only [Act.put, List.setIfInBounds_toArray, List.set_cons_zero, List.set_cons_succ]
            clear hv1 hg1 fresh
            refine wpAnyH_ready (rs := [9]) (by kernel_rfl) (by simp) (AllReadyH.cons (o := { dst := some 112, op := Go.Op.call { callee := Go.Callee.builtin Go.Builtin.append, args := #[Go.Operand.tmp 108, Go.Operand.tmp 111], argTypes := #[40, 40] }, type := 40, pos := "ref.go:219", after := #[{ on := 5, ground := Go.Ground.data }, { on := 8, ground := Go.Ground.data }, { on := 5, ground := Go.Ground.chain }], guard := none }) rfl (fun K hK => ?_) AllReadyH.nil)
            rw [if_pos (by rfl)]
            have cb : WC2.cell? ⟨w4.heap.size, 0, none⟩ = some (sV nm) := by
              have := QCb.out
              simp [World.cell?, this]
            refine wp_pushS (.tmp 108) (.tmp 111) rfl B0 _ o nm w4.heap.size (by rfl) CC2.out (by rfl) cb (by omega) DC2.out.s ?_
            intro v2 W9 hv2 hg2
            have D9 := Lib.hid (DC2.out.grow CC2.out hg2 hne1)
            obtain ⟨xa2, xc2, hx2⟩ := own_slice hv2
            subst hx2
            have V2 := Lib.hid hv2
            refine Shut.out hK _ _ D9.out.t.cs.2.1 (fun hSb => ?_)
            clear hK K
            try simp only [Act.put, List.setIfInBounds_toArray, List.set_cons_zero, List.set_cons_succ]
            clear hv2 hg2 cb hne1
            refine wpAnyH_take (i := 10) (oi := { dst := some 113, op := Go.Op.nilCheck (Go.Operand.tmp 103), type := 0, pos := "ref.go:219", after := #[{ on := 0, ground := Go.Ground.data }, { on := 0, ground := Go.Ground.phase }, { on := 1, ground := Go.Ground.phase }, { on := 2, ground := Go.Ground.phase }, { on := 3, ground := Go.Ground.phase }, { on := 4, ground := Go.Ground.phase }, { on := 5, ground := Go.Ground.phase }, { on := 6, ground := Go.Ground.phase }, { on := 7, ground := Go.Ground.phase }, { on := 8, ground := Go.Ground.phase }, { on := 9, ground := Go.Ground.phase }], guard := none }) (v := ?vc10) rfl (by kernel_rfl) (by kernel_rfl) (by kernel_rfl) (fun _ _ _ h => h) (Or.inl ⟨by rfl, ?yc10⟩) (by assumption) ?rc10
            case yc10 => (intro wq hSw; (try dsimp only at hSw); go_simp; try with_reducible rfl)
            simp only [Act.put, List.setIfInBounds_toArray, List.set_cons_zero, List.set_cons_succ]
            refine wpAnyH_take (i := 11) (oi := { dst := some 114, op := Go.Op.fieldAddr 48 (Go.Operand.tmp 113) 2, type := 0, pos := "ref.go:219", after := #[{ on := 10, ground := Go.Ground.data }, { on := 0, ground := Go.Ground.phase }, { on := 1, ground := Go.Ground.phase }, { on := 2, ground := Go.Ground.phase }, { on := 3, ground := Go.Ground.phase }, { on := 4, ground := Go.Ground.phase }, { on := 5, ground := Go.Ground.phase }, { on := 6, ground := Go.Ground.phase }, { on := 7, ground := Go.Ground.phase }, { on := 8, ground := Go.Ground.phase }, { on := 9, ground := Go.Ground.phase }], guard := none }) (v := ?vc11) rfl (by kernel_rfl) (by kernel_rfl) (by kernel_rfl) (fun _ _ _ h => h) (Or.inl ⟨by rfl, ?yc11⟩) (by assumption) ?rc11
            case yc11 => (intro wq hSw; (try dsimp only at hSw); go_simp; try with_reducible rfl)
            simp only [Act.put, List.setIfInBounds_toArray, List.set_cons_zero, List.set_cons_succ]
            obtain ⟨z0, z1, z2, z3, z4, z5⟩ := D9.out.h.cs
            have zf := D9.out.h.fz 2
            have E9 := Lib.hid (D9.out.setO hB hkb V2.out)
            rw [List.length_append] at E9
            refine wpAnyH_ready (rs := [12]) (by kernel_rfl) (by simp) (AllReadyH.cons (o := { dst := none, op := Go.Op.store 40 (Go.Operand.tmp 114) (Go.Operand.tmp 112), type := 0, pos := "ref.go:219", after := #[{ on := 11, ground := Go.Ground.data }, { on := 9, ground := Go.Ground.data }, { on := 9, ground := Go.Ground.chain }, { on := 0, ground := Go.Ground.phase }, { on := 1, ground := Go.Ground.phase }, { on := 2, ground := Go.Ground.phase }, { on := 3, ground := Go.Ground.phase }, { on := 4, ground := Go.Ground.phase }, { on := 5, ground := Go.Ground.phase }, { on := 6, ground := Go.Ground.phase }, { on := 7, ground := Go.Ground.phase }, { on := 8, ground := Go.Ground.phase }, { on := 9, ground := Go.Ground.phase }], guard := none }) rfl (fun K hK => ?_) AllReadyH.nil)
            go_simp
            refine Shut.out hK _ _ E9.out.t.cs.2.1 (fun hSb => ?_)
            clear hK K
            try simp only [Act.put, List.setIfInBounds_toArray, List.set_cons_zero, List.set_cons_succ]
            refine wpAnyH_done (by kernel_rfl) ?_ _
            clear z0 z1 z2 z3 z4 z5 zf D9 V2 hk1 hS0
            generalize W9.setCell ⟨b, 2, none⟩ (.slice xa2 (o.length + 1) xc2) = W10 at *
            go_wp2
            go_meet
            exact ⟨_, E9⟩
        case rest =>
          obtain ⟨ov2, S3⟩ := hcut
          obtain ⟨oa2, oc2, hov2⟩ := own_slice S3.out.o
          rw [List.length_append] at hov2
          subst hov2
          obtain ⟨c0, c1, c2, c3, c4, c5⟩ := S3.out.h.cs
          have hlt1 : ∀ g, lv.ownBlock = some g → g ≠ w2.heap.size := fun g hg e => by
            have := HLT.out g hg
            omega
          by_cases h20 : 20 < o.length + 1
          · have h20I : (20 : Int) < (o.length : Int) + 1 := by omega
            have HX := Lib.hid (show openS ⟨s.drop at0, o, n, l⟩ = .er 5 by rw [HOQ.out, if_pos h20])
            clear HOQ h20 HTE HB c0 c1 c3 c4 c5
            go_wp2_with fail
            refine (rfail_any b s at2 _ n' lv 0 5 _ S3.out.h).mono ?_
            rintro r w5 ⟨rfl, h5, o5⟩
            have R5 := RS.ob hB S3.out.s S3.out.h S3.out.o S3.out.l o5 h5
            have Z := Lib.hid (And.intro R5 (S3.out.z.trans (o5.below hB S3.out.s)))
            clear h5 o5 R5
            go_wp2
            refine bodyPost_ret (results_none rfl _ _ _) rfl ?_
            refine ⟨rfl, Z.out.2, ?_⟩
            rw [HX.out]
            exact ⟨_, _, _, _, hat2l, Z.out.1⟩
          · have h20I : ¬ (20 : Int) < (o.length : Int) + 1 := by omega
            have HOR := Lib.hid (show openS ⟨s.drop at0, o, n, l⟩ = (
              match s.drop at2 with
              | 62 :: v => .ok ⟨v, o ++ [nm], n', l ++ [tO nm acc]⟩
              | 47 :: 62 :: v => shut nm v ⟨[], o ++ [nm], n', l ++ [tO nm acc]⟩
              | _ => .er 2) by rw [HOQ.out, if_neg h20])
            clear HOQ h20 c0 c1 c3 c4 c5
            go_upto_region 25 with (fail)
            obtain ⟨xo, xc, hxs⟩ := own_slice S3.out.a
            have h1c : xa.oneCell' = true := by rw [hxs]; rfl
            clear hxs c2 h20I
            obtain ⟨W5, hW5⟩ : ∃ W5, W5 = wc := ⟨_, rfl⟩
            rw [← hW5] at S3 ⊢
            clear hW5
            have S5 := S3
            clear S3
            go_cut [] from 123 to 132 (fun wx => Hid (RS B0 b s at2 (o ++ [nm]) n' (l ++ [tO nm acc]) 0 wx) ∧ Hid (Below B0 w wx) ∧ Hid (Bt w2.heap.size nm xa wx))
            case first =>
              have KD := (Kept.refl W5).drew
              have S1 := Lib.hid (S5.out.kept KD)
              obtain ⟨q0, q1, q2, q3⟩ := S5.out.t.cs
              clear KD
              refine wp_region_held_drew (S := fun y => y.cell? ⟨w2.heap.size, 0, none⟩ = some (iV 0) ∧ y.cell? ⟨w2.heap.size, 1, none⟩ = some (sV nm) ∧ y.cell? ⟨w2.heap.size, 2, none⟩ = some (sV []) ∧ y.cell? ⟨w2.heap.size, 3, none⟩ = some xa) (by kernel_rfl) ⟨q0, q1, q2, q3⟩ (fun hS0 => ?_)
              refine wpAnyH_take (i := 0) (oi := { dst := some 123, op := Go.Op.move (Go.Operand.tmp 0), type := 46, pos := "ref.go:224", after := #[], guard := none }) (v := ?vd0) rfl (by kernel_rfl) (by kernel_rfl) (by kernel_rfl) (fun _ _ _ h => h) (Or.inl ⟨by rfl, ?yd0⟩) (by assumption) ?rd0
              case yd0 => (intro wq hSw; (try dsimp only at hSw); go_simp; try with_reducible rfl)
              simp only [Act.put, List.setIfInBounds_toArray, List.set_cons_zero, List.set_cons_succ]
              refine wpAnyH_take (i := 1) (oi := { dst := some 124, op := Go.Op.move (Go.Operand.tmp 0), type := 46, pos := "ref.go:224", after := #[], guard := none }) (v := ?vd1) rfl (by kernel_rfl) (by kernel_rfl) (by kernel_rfl) (fun _ _ _ h => h) (Or.inl ⟨by rfl, ?yd1⟩) (by assumption) ?rd1
              case yd1 => (intro wq hSw; (try dsimp only at hSw); go_simp; try with_reducible rfl)
              simp only [Act.put, List.setIfInBounds_toArray, List.set_cons_zero, List.set_cons_succ]
              refine wpAnyH_take (i := 2) (oi := { dst := some 125, op := Go.Op.nilCheck (Go.Operand.tmp 124), type := 0, pos := "ref.go:224", after := #[{ on := 1, ground := Go.Ground.data }], guard := none }) (v := ?vd2) rfl (by kernel_rfl) (by kernel_rfl) (by kernel_rfl) (fun _ _ _ h => h) (Or.inl ⟨by rfl, ?yd2⟩) (by assumption) ?rd2
              case yd2 => (intro wq hSw; (try dsimp only at hSw); go_simp; try with_reducible rfl)
              simp only [Act.put, List.setIfInBounds_toArray, List.set_cons_zero, List.set_cons_succ]
              refine wpAnyH_take (i := 3) (oi := { dst := some 126, op := Go.Op.fieldAddr 48 (Go.Operand.tmp 125) 4, type := 0, pos := "ref.go:224", after := #[{ on := 2, ground := Go.Ground.data }], guard := none }) (v := ?vd3) rfl (by kernel_rfl) (by kernel_rfl) (by kernel_rfl) (fun _ _ _ h => h) (Or.inl ⟨by rfl, ?yd3⟩) (by assumption) ?rd3
              case yd3 => (intro wq hSw; (try dsimp only at hSw); go_simp; try with_reducible rfl)
              simp only [Act.put, List.setIfInBounds_toArray, List.set_cons_zero, List.set_cons_succ]
              refine wpAnyH_take (i := 5) (oi := { dst := some 128, op := Go.Op.load 38 (Go.Operand.tmp 2), type := 38, pos := "ref.go:224", after := #[], guard := none }) (v := ?vd5) rfl (by kernel_rfl) (by kernel_rfl) (by kernel_rfl) (fun _ _ _ h => h) (Or.inl ⟨by rfl, ?yd5⟩) (by assumption) ?rd5
              case yd5 => (intro wq hSw; (try dsimp only at hSw); go_simp; try with_reducible rfl)
              simp only [Act.put, List.setIfInBounds_toArray, List.set_cons_zero, List.set_cons_succ]
              refine wpAnyH_ready (rs := [4, 6]) (by kernel_rfl) (by simp) (AllReadyH.cons (o := { dst := some 127, op := Go.Op.load 24 (Go.Operand.tmp 126), type := 24, pos := "ref.go:224", after := #[{ on := 3, ground := Go.Ground.data }], guard := none }) rfl (fun K hK => ?_) (AllReadyH.cons (o := { dst := some 129, op := Go.Op.buildSlice 24 1 #[(0, Go.Operand.tmp 128)], type := 24, pos := "ref.go:224", after := #[{ on := 5, ground := Go.Ground.data }], guard := none }) rfl (fun K hK => ?_) AllReadyH.nil))
              · have c3'' := S1.out.h.cs.2.2.2.2.1
                go_simp
                refine Shut.out hK _ _ S1.out.t.cs (fun hSb => ?_)
                clear hK K
                try simp only [Act.put, List.setIfInBounds_toArray, List.set_cons_zero, List.set_cons_succ]
                clear c3''
                refine wpAnyH_ready (rs := [6]) (by kernel_rfl) (by simp) (AllReadyH.cons (o := { dst := some 129, op := Go.Op.buildSlice 24 1 #[(0, Go.Operand.tmp 128)], type := 24, pos := "ref.go:224", after := #[{ on := 5, ground := Go.Ground.data }], guard := none }) rfl (fun K hK => ?_) AllReadyH.nil)
                go_simp
                have kx : Kept W5.drew (W5.alloc (.cells #[iV 0, sV nm, sV [], xa] 38)).drew := (Kept.refl W5.drew).alloc (.cells #[iV 0, sV nm, sV [], xa] 38)
                have Q2 : Bt W5.heap.size nm xa (W5.alloc (.cells #[iV 0, sV nm, sV [], xa] 38)).drew := bt_new W5.drew nm |> fun _ => (show ((W5.alloc (.cells #[iV 0, sV nm, sV [], xa] 38)).drew).heap[W5.heap.size]? = _ by show (W5.heap.push _)[W5.heap.size]? = _; simp)
                have S2 := Lib.hid (S1.out.kept kx)
                refine Shut.out hK _ _ S2.out.t.cs (fun hSb => ?_)
                clear hK K
                try simp only [Act.put, List.setIfInBounds_toArray, List.set_cons_zero, List.set_cons_succ]
                generalize (W5.alloc (.cells #[iV 0, sV nm, sV [], xa] 38)).drew = W6 at *
                refine wpAnyH_ready (rs := [7]) (by kernel_rfl) (by simp) (AllReadyH.cons (o := { dst := some 130, op := Go.Op.call { callee := Go.Callee.builtin Go.Builtin.append, args := #[Go.Operand.tmp 127, Go.Operand.tmp 129], argTypes := #[24, 24] }, type := 24, pos := "ref.go:224", after := #[{ on := 4, ground := Go.Ground.data }, { on := 6, ground := Go.Ground.data }], guard := none }) rfl (fun K hK => ?_) AllReadyH.nil)
                rw [if_pos (by rfl)]
                obtain ⟨vs, hvs, hT, hA⟩ := S2.out.l
                have hne : ∀ g, lv.ownBlock = some g → w2.heap.size ≠ g := fun g hg e => by
                  have h1 := hlt1 g hg
                  have := (World.ownsRow.lt hT g hg).2
                  obtain ⟨cc, hcc⟩ := own_kind hT g hg
                  exact h1 e.symm
                refine wp_pushT (.tmp 127) (.tmp 129) rfl B0 lv l vs (tO nm acc) xa W5.heap.size (by rfl) hT (by rfl) Q2.cs h1c (by omega) S2.out.s ?_
                intro v' w7 h7 hg
                obtain ⟨ao, cp, hv'⟩ := own_slice h7
                obtain ⟨f1, f2⟩ := push_fin (t := tO nm acc) hB S2.out.s S2.out.h S2.out.o hvs hT hA S2.out.a hg h7
                have R7 := S2.out.h.grow hg (NoRow.own hT (by decide))
                have T7 : Bt w2.heap.size nm xa w7 := (hg.block _ S2.out.t.lt (fun e => hne _ e.symm rfl)).trans S2.out.t
                have z4 := R7.fz 4
                have Z := Lib.hid (And.intro f1 (And.intro (S2.out.z.trans f2) (T7.other hkb 4 v')))
                subst hv'
                refine Shut.out hK _ _ T7.cs (fun hSb => ?_)
                clear hK K
                try simp only [Act.put, List.setIfInBounds_toArray, List.set_cons_zero, List.set_cons_succ]
                refine wpAnyH_take (i := 8) (oi := { dst := some 131, op := Go.Op.nilCheck (Go.Operand.tmp 123), type := 0, pos := "ref.go:224", after := #[{ on := 0, ground := Go.Ground.data }, { on := 0, ground := Go.Ground.phase }, { on := 1, ground := Go.Ground.phase }, { on := 2, ground := Go.Ground.phase }, { on := 3, ground := Go.Ground.phase }, { on := 4, ground := Go.Ground.phase }, { on := 5, ground := Go.Ground.phase }, { on := 6, ground := Go.Ground.phase }, { on := 7, ground := Go.Ground.phase }], guard := none }) (v := ?ve8) rfl (by kernel_rfl) (by kernel_rfl) (by kernel_rfl) (fun _ _ _ h => h) (Or.inl ⟨by rfl, ?ye8⟩) (by assumption) ?re8
                case ye8 => (intro wq hSw; (try dsimp only at hSw); go_simp; try with_reducible rfl)
                simp only [Act.put, List.setIfInBounds_toArray, List.set_cons_zero, List.set_cons_succ]
                refine wpAnyH_take (i := 9) (oi := { dst := some 132, op := Go.Op.fieldAddr 48 (Go.Operand.tmp 131) 4, type := 0, pos := "ref.go:224", after := #[{ on := 8, ground := Go.Ground.data }, { on := 0, ground := Go.Ground.phase }, { on := 1, ground := Go.Ground.phase }, { on := 2, ground := Go.Ground.phase }, { on := 3, ground := Go.Ground.phase }, { on := 4, ground := Go.Ground.phase }, { on := 5, ground := Go.Ground.phase }, { on := 6, ground := Go.Ground.phase }, { on := 7, ground := Go.Ground.phase }], guard := none }) (v := ?ve9) rfl (by kernel_rfl) (by kernel_rfl) (by kernel_rfl) (fun _ _ _ h => h) (Or.inl ⟨by rfl, ?ye9⟩) (by assumption) ?re9
                case ye9 => (intro wq hSw; (try dsimp only at hSw); go_simp; try with_reducible rfl)
                simp only [Act.put, List.setIfInBounds_toArray, List.set_cons_zero, List.set_cons_succ]
                obtain ⟨d0, d1, d2, d3, d4, d5⟩ := R7.cs
                refine wpAnyH_ready (rs := [10]) (by kernel_rfl) (by simp) (AllReadyH.cons (o := { dst := none, op := Go.Op.store 24 (Go.Operand.tmp 132) (Go.Operand.tmp 130), type := 0, pos := "ref.go:224", after := #[{ on := 9, ground := Go.Ground.data }, { on := 7, ground := Go.Ground.data }, { on := 7, ground := Go.Ground.chain }, { on := 0, ground := Go.Ground.phase }, { on := 1, ground := Go.Ground.phase }, { on := 2, ground := Go.Ground.phase }, { on := 3, ground := Go.Ground.phase }, { on := 4, ground := Go.Ground.phase }, { on := 5, ground := Go.Ground.phase }, { on := 6, ground := Go.Ground.phase }, { on := 7, ground := Go.Ground.phase }], guard := none }) rfl (fun K hK => ?_) AllReadyH.nil)
                go_simp
                refine Shut.out hK _ _ Z.out.2.2.cs (fun hSb => ?_)
                clear hK K
                try simp only [Act.put, List.setIfInBounds_toArray, List.set_cons_zero, List.set_cons_succ]
                refine wpAnyH_done (by kernel_rfl) ?_ _
                go_wp2
                go_meet
                exact ⟨Lib.hid Z.out.1, Lib.hid Z.out.2.1, Lib.hid Z.out.2.2⟩
              · go_simp
                have kx : Kept W5.drew (W5.alloc (.cells #[iV 0, sV nm, sV [], xa] 38)).drew := (Kept.refl W5.drew).alloc (.cells #[iV 0, sV nm, sV [], xa] 38)
                have Q2 : Bt W5.heap.size nm xa (W5.alloc (.cells #[iV 0, sV nm, sV [], xa] 38)).drew := bt_new W5.drew nm |> fun _ => (show ((W5.alloc (.cells #[iV 0, sV nm, sV [], xa] 38)).drew).heap[W5.heap.size]? = _ by show (W5.heap.push _)[W5.heap.size]? = _; simp)
                have S2 := Lib.hid (S1.out.kept kx)
                refine Shut.out hK _ _ S2.out.t.cs (fun hSb => ?_)
                clear hK K
                try simp only [Act.put, List.setIfInBounds_toArray, List.set_cons_zero, List.set_cons_succ]
                generalize (W5.alloc (.cells #[iV 0, sV nm, sV [], xa] 38)).drew = W6 at *
                have c3'' := S2.out.h.cs.2.2.2.2.1
                refine wpAnyH_ready (rs := [4]) (by kernel_rfl) (by simp) (AllReadyH.cons (o := { dst := some 127, op := Go.Op.load 24 (Go.Operand.tmp 126), type := 24, pos := "ref.go:224", after := #[{ on := 3, ground := Go.Ground.data }], guard := none }) rfl (fun K hK => ?_) AllReadyH.nil)
                go_simp
                refine Shut.out hK _ _ S2.out.t.cs (fun hSb => ?_)
                clear hK K
                try simp only [Act.put, List.setIfInBounds_toArray, List.set_cons_zero, List.set_cons_succ]
                clear c3''
                refine wpAnyH_ready (rs := [7]) (by kernel_rfl) (by simp) (AllReadyH.cons (o := { dst := some 130, op := Go.Op.call { callee := Go.Callee.builtin Go.Builtin.append, args := #[Go.Operand.tmp 127, Go.Operand.tmp 129], argTypes := #[24, 24] }, type := 24, pos := "ref.go:224", after := #[{ on := 4, ground := Go.Ground.data }, { on := 6, ground := Go.Ground.data }], guard := none }) rfl (fun K hK => ?_) AllReadyH.nil)
                rw [if_pos (by rfl)]
                obtain ⟨vs, hvs, hT, hA⟩ := S2.out.l
                have hne : ∀ g, lv.ownBlock = some g → w2.heap.size ≠ g := fun g hg e => by
                  have h1 := hlt1 g hg
                  have := (World.ownsRow.lt hT g hg).2
                  obtain ⟨cc, hcc⟩ := own_kind hT g hg
                  exact h1 e.symm
                refine wp_pushT (.tmp 127) (.tmp 129) rfl B0 lv l vs (tO nm acc) xa W5.heap.size (by rfl) hT (by rfl) Q2.cs h1c (by omega) S2.out.s ?_
                intro v' w7 h7 hg
                obtain ⟨ao, cp, hv'⟩ := own_slice h7
                obtain ⟨f1, f2⟩ := push_fin (t := tO nm acc) hB S2.out.s S2.out.h S2.out.o hvs hT hA S2.out.a hg h7
                have R7 := S2.out.h.grow hg (NoRow.own hT (by decide))
                have T7 : Bt w2.heap.size nm xa w7 := (hg.block _ S2.out.t.lt (fun e => hne _ e.symm rfl)).trans S2.out.t
                have z4 := R7.fz 4
                have Z := Lib.hid (And.intro f1 (And.intro (S2.out.z.trans f2) (T7.other hkb 4 v')))
                subst hv'
                refine Shut.out hK _ _ T7.cs (fun hSb => ?_)
                clear hK K
                try simp only [Act.put, List.setIfInBounds_toArray, List.set_cons_zero, List.set_cons_succ]
                refine wpAnyH_take (i := 8) (oi := { dst := some 131, op := Go.Op.nilCheck (Go.Operand.tmp 123), type := 0, pos := "ref.go:224", after := #[{ on := 0, ground := Go.Ground.data }, { on := 0, ground := Go.Ground.phase }, { on := 1, ground := Go.Ground.phase }, { on := 2, ground := Go.Ground.phase }, { on := 3, ground := Go.Ground.phase }, { on := 4, ground := Go.Ground.phase }, { on := 5, ground := Go.Ground.phase }, { on := 6, ground := Go.Ground.phase }, { on := 7, ground := Go.Ground.phase }], guard := none }) (v := ?vf8) rfl (by kernel_rfl) (by kernel_rfl) (by kernel_rfl) (fun _ _ _ h => h) (Or.inl ⟨by rfl, ?yf8⟩) (by assumption) ?rf8
                case yf8 => (intro wq hSw; (try dsimp only at hSw); go_simp; try with_reducible rfl)
                simp only [Act.put, List.setIfInBounds_toArray, List.set_cons_zero, List.set_cons_succ]
                refine wpAnyH_take (i := 9) (oi := { dst := some 132, op := Go.Op.fieldAddr 48 (Go.Operand.tmp 131) 4, type := 0, pos := "ref.go:224", after := #[{ on := 8, ground := Go.Ground.data }, { on := 0, ground := Go.Ground.phase }, { on := 1, ground := Go.Ground.phase }, { on := 2, ground := Go.Ground.phase }, { on := 3, ground := Go.Ground.phase }, { on := 4, ground := Go.Ground.phase }, { on := 5, ground := Go.Ground.phase }, { on := 6, ground := Go.Ground.phase }, { on := 7, ground := Go.Ground.phase }], guard := none }) (v := ?vf9) rfl (by kernel_rfl) (by kernel_rfl) (by kernel_rfl) (fun _ _ _ h => h) (Or.inl ⟨by rfl, ?yf9⟩) (by assumption) ?rf9
                case yf9 => (intro wq hSw; (try dsimp only at hSw); go_simp; try with_reducible rfl)
                simp only [Act.put, List.setIfInBounds_toArray, List.set_cons_zero, List.set_cons_succ]
                obtain ⟨d0, d1, d2, d3, d4, d5⟩ := R7.cs
                refine wpAnyH_ready (rs := [10]) (by kernel_rfl) (by simp) (AllReadyH.cons (o := { dst := none, op := Go.Op.store 24 (Go.Operand.tmp 132) (Go.Operand.tmp 130), type := 0, pos := "ref.go:224", after := #[{ on := 9, ground := Go.Ground.data }, { on := 7, ground := Go.Ground.data }, { on := 7, ground := Go.Ground.chain }, { on := 0, ground := Go.Ground.phase }, { on := 1, ground := Go.Ground.phase }, { on := 2, ground := Go.Ground.phase }, { on := 3, ground := Go.Ground.phase }, { on := 4, ground := Go.Ground.phase }, { on := 5, ground := Go.Ground.phase }, { on := 6, ground := Go.Ground.phase }, { on := 7, ground := Go.Ground.phase }], guard := none }) rfl (fun K hK => ?_) AllReadyH.nil)
                go_simp
                refine Shut.out hK _ _ Z.out.2.2.cs (fun hSb => ?_)
                clear hK K
                try simp only [Act.put, List.setIfInBounds_toArray, List.set_cons_zero, List.set_cons_succ]
                refine wpAnyH_done (by kernel_rfl) ?_ _
                go_wp2
                go_meet
                exact ⟨Lib.hid Z.out.1, Lib.hid Z.out.2.1, Lib.hid Z.out.2.2⟩
            case rest =>
            obtain ⟨S6, B6, T6⟩ := hcut
            clear S5
            obtain ⟨ov6, lv6, hR6, hA6, hAB6⟩ := S6.out.setA (a' := at2 + 1)
            obtain ⟨d0, d1, d2, d3, d4, d5⟩ := hR6.cs
            have e1 := hR6.fz 1
            have A6 : Hid (RS B0 b s (at2 + 1) (o ++ [nm]) n' (l ++ [tO nm acc]) 0 (wc.setCell ⟨b, 1, none⟩ (.int .i64 ((at2 : Int) + 1)))) := Lib.hid hA6
            have AB6 : Hid (Below B0 w (wc.setCell ⟨b, 1, none⟩ (.int .i64 ((at2 : Int) + 1)))) := Lib.hid (B6.out.trans hAB6)
            have T7 : Hid (Bt w2.heap.size nm xa (wc.setCell ⟨b, 1, none⟩ (.int .i64 ((at2 : Int) + 1)))) := Lib.hid (T6.out.other hkb 1 (iV ((at2 + 1 : Nat) : Int)))
            clear hR6 hA6 hAB6 S6 B6 T6 d0 d2 d3 d4 d5
            rcases HTE.out with ⟨v, hv⟩ | ⟨v, hv⟩
            · have hqf : qe = false := by rw [← hqe, hv]; rfl
              obtain ⟨hd1, hd2⟩ := drop_tl hv
              have hsl := drop_len hd1 hd2
              have HX := Lib.hid (show openS ⟨s.drop at0, o, n, l⟩ = .ok ⟨v, o ++ [nm], n', l ++ [tO nm acc]⟩ by
                rw [HOR.out, hv]
                rfl)
              have Z : Hid (RS B0 b s (s.length - v.length) (o ++ [nm]) n' (l ++ [tO nm acc]) 0 (wc.setCell ⟨b, 1, none⟩ (.int .i64 ((at2 : Int) + 1)))) := Lib.hid (by rw [hsl]; exact A6.out)
              clear HTE HOR hqe hv hd1 hd2 hsl A6 T7
              subst hqf
              go_wp2
              refine bodyPost_ret (results_none rfl _ _ _) rfl ?_
              refine ⟨rfl, AB6.out, ?_⟩
              rw [HX.out]
              exact Z.out
            · have hqf : qe = true := by rw [← hqe, hv]; rfl
              obtain ⟨hd1, hd2⟩ := drop_tl hv
              obtain ⟨hd3, hd4⟩ := drop_tl hd1
              have hsl := drop_len hd3 hd4
              have HX := Lib.hid (show openS ⟨s.drop at0, o, n, l⟩ = shut nm v ⟨[], o ++ [nm], n', l ++ [tO nm acc]⟩ by
                rw [HOR.out, hv]
                rfl)
              clear HTE HOR hqe hv hd1 hd3
              subst hqf
              go_upto_region 28 with (fail)
              generalize wc.setCell ⟨b, 1, none⟩ (.int .i64 ((at2 : Int) + 1)) = W7 at *
              obtain ⟨ov8, lv8, hR8, hA8, hAB8⟩ := A6.out.setA (a' := at2 + 1 + 1)
              obtain ⟨d0, d2, d3, d4, d5, d6⟩ := hR8.cs
              have e2 := hR8.fz 1
              have A8 : Hid (RS B0 b s (at2 + 1 + 1) (o ++ [nm]) n' (l ++ [tO nm acc]) 0 (W7.setCell ⟨b, 1, none⟩ (.int .i64 ((at2 : Int) + 1 + 1)))) := Lib.hid hA8
              have AB8 : Hid (Below B0 w (W7.setCell ⟨b, 1, none⟩ (.int .i64 ((at2 : Int) + 1 + 1)))) := Lib.hid (AB6.out.trans hAB8)
              have T8 : Hid (Bt w2.heap.size nm xa (W7.setCell ⟨b, 1, none⟩ (.int .i64 ((at2 : Int) + 1 + 1)))) := Lib.hid (T7.out.other hkb 1 (iV ((at2 + 1 + 1 : Nat) : Int)))
              clear hR8 hA8 hAB8 A6 AB6 T7 d0 d3 d4 d5 d6 d1 e1
              go_upto_region 29 with (fail)
              generalize W7.setCell ⟨b, 1, none⟩ (.int .i64 ((at2 : Int) + 1 + 1)) = W8 at *
              obtain ⟨t0, t1, t2, t3⟩ := T8.out.cs
              go_wp2_with fail
              refine (rclose_any B0 b s nm (at2 + 1 + 1) (o ++ [nm]) n' (l ++ [tO nm acc]) 0 _ A8.out (by rw [List.length_append]; show l.length + 1 ≤ _; omega) (by rw [List.length_append]; show o.length + 1 ≤ _; omega)).mono ?_
              rintro r w9 ⟨rfl, b9, hc⟩
              have hlast : (o ++ [nm]).getLast? = some nm := by simp
              rw [if_pos hlast] at hc
              have hHX : Hid (openS ⟨s.drop at0, o, n, l⟩ = .ok ⟨v, (o ++ [nm]).dropLast, n', l ++ [tO nm acc] ++ [tC nm]⟩) := Lib.hid (by rw [HX.out]; unfold shut; rw [if_pos hlast])
              have Z : Hid (RS B0 b s (s.length - v.length) (o ++ [nm]).dropLast n' (l ++ [tO nm acc] ++ [tC nm]) 0 w9) := Lib.hid (by rw [hsl]; exact hc)
              have Z2 := Lib.hid (AB8.out.trans b9)
              clear HX hc b9 AB8 A8
              go_wp2
              go_end0
              refine ⟨rfl, Z2.out, ?_⟩
              rw [hHX.out]
              exact Z.out
  case first =>
  go_wp2_with fail
  go_loopw [] (fun wr => ∃ (at1 : Nat) (acc : List Atr) (xa : Value) (e : Int), Hid (Rd b s at1 ov n lv e wr) ∧ Hid (Bt w2.heap.size nm xa wr) ∧ Hid (AtsO w.heap.size xa acc wr) ∧ Hid (Ob b w wr) ∧ Hid (if isN nm = true then AtI s y at1 acc e else (at1 ≤ s.length ∧ e = 2)) ∧ (e = 0 → acc.length ≤ at1) ∧ acc.length ≤ s.length + 1) (fun wr => (if intOf ((wr.cell? ⟨b, 5, none⟩).getD undef) = 0 then s.length - (intOf ((wr.cell? ⟨b, 1, none⟩).getD undef)).toNat + 1 else 0))
  case atStart =>
    refine ⟨s.length - y.length, [], .slice none 0 0, e1, H3, T3, A3, O3, Lib.hid ?_, fun _ => Nat.zero_le _, Nat.zero_le _⟩
    by_cases q : isN nm = true
    · rw [if_pos q]
      refine ⟨hat1, Or.inl ⟨by rw [HE1.out, if_pos q], y.length + 1, by rw [HY.out]; omega, by rw [HY.out]⟩⟩
    · rw [if_neg q]
      exact ⟨hat1, by rw [HE1.out, if_neg q]⟩
  case round =>
    obtain ⟨at1, acc, xa, e, hH, hT, hA, hO, hI, hal, hal2⟩ := hrel
    clear H3 T3 A3 O3
    obtain ⟨c0, c1, c2, c3, c4, c5⟩ := hH.out.cs
    have he : e = 0 ∨ e = 2 := by
      have := hI.out
      by_cases q : isN nm = true
      · rw [if_pos q] at this
        rcases this.2 with ⟨q, _⟩ | ⟨q, _⟩
        · exact Or.inl q
        · exact Or.inr q
      · rw [if_neg q] at this; exact Or.inr this.2
    have hale : at1 ≤ s.length := by
      have := hI.out
      by_cases q : isN nm = true
      · rw [if_pos q] at this; exact this.1
      · rw [if_neg q] at this; exact this.1
    rcases he with rfl | rfl
    · have hN : isN nm = true := by
        have := hI.out
        by_cases q : isN nm = true
        · exact q
        · rw [if_neg q] at this; cases this.2
      have HI := Lib.hid (show AtI s y at1 acc 0 by have := hI.out; rw [if_pos hN] at this; exact this)
      have hmes : (if intOf ((wr.cell? ⟨b, 5, none⟩).getD undef) = 0 then s.length - (intOf ((wr.cell? ⟨b, 1, none⟩).getD undef)).toNat + 1 else 0) = s.length - at1 + 1 := by
        rw [c5, c1]; simp [intOf]
      clear hI c0 c1 c2 c3 c4
      go_wp2_with fail
      refine (rspaces_any b s at1 ov n lv 0 _ hH.out hale hs).mono ?_
      rintro r w4 ⟨o4, rfl, h4⟩
      obtain ⟨hz, hzl⟩ := suf_drop (s := s) (y := s.drop at1) (z := skip (s.drop at1)) (by rw [List.length_drop, show s.length - (s.length - at1) = at1 by omega]) (by rw [List.length_drop]; omega) (skip_suf _)
      have hskl := skip_len (s.drop at1)
      rw [List.length_drop] at hskl
      have H4 := Lib.hid h4
      have O4 := Lib.hid (hO.out.trans o4)
      have T4 := Lib.hid (hT.out.ob o4 (by omega))
      have A4 := Lib.hid (hA.out.ob o4 (rd_noA hH.out))
      have HZ := Lib.hid hz
      clear h4 o4 hH hT hA hO c5 hz
      generalize hat2 : s.length - (skip (s.drop at1)).length = at2 at *
      generalize hnn : at2 - at1 = nn at *
      have hat2l : at2 ≤ s.length := by omega
      go_wp2_with fail
      refine (rbegins_any b s [62] at2 ov n lv 0 _ H4.out hat2l hs (by simp)).mono ?_
      rintro r w5 ⟨rfl, k5⟩
      have H5 := Lib.hid (H4.out.kept k5)
      have O5 := Lib.hid (O4.out.kept k5)
      have T5 := Lib.hid (T4.out.kept k5)
      have A5 := Lib.hid (A4.out.kept k5)
      clear H4 O4 T4 A4 k5
      go_wp2_with fail
      refine (rbegins_any b s [47, 62] at2 ov n lv 0 _ H5.out hat2l hs (by simp)).mono ?_
      rintro r w6 ⟨rfl, k6⟩
      have H6 := Lib.hid (H5.out.kept k6)
      have O6 := Lib.hid (O5.out.kept k6)
      have T6 := Lib.hid (T5.out.kept k6)
      have A6 := Lib.hid (A5.out.kept k6)
      clear H5 O5 T5 A5 k6
      have hte := tag_end (s.drop at2)
      cases hb1 : ([62] : B).isPrefixOf (s.drop at2) with
      | true =>
        have HE := Lib.hid (atI_end HI.out HZ.out (by rw [hte, hb1]; rfl))
        cases hb2 : ([47, 62] : B).isPrefixOf (s.drop at2) with
        | true =>
          go_wp2_with fail
          go_meet
          exact ⟨at2, acc, xa, 0, H6, T6, A6, O6, hat2l, hal2, Lib.hid (Or.inr ⟨rfl, hN, HE.out⟩)⟩
        | false =>
          go_wp2_with fail
          go_meet
          exact ⟨at2, acc, xa, 0, H6, T6, A6, O6, hat2l, hal2, Lib.hid (Or.inr ⟨rfl, hN, HE.out⟩)⟩
      | false =>
        cases hb2 : ([47, 62] : B).isPrefixOf (s.drop at2) with
        | true =>
          have HE := Lib.hid (atI_end HI.out HZ.out (by rw [hte, hb1, hb2]; rfl))
          go_wp2_with fail
          go_meet
          exact ⟨at2, acc, xa, 0, H6, T6, A6, O6, hat2l, hal2, Lib.hid (Or.inr ⟨rfl, hN, HE.out⟩)⟩
        | false =>
          rw [hb1, hb2] at hte
          have hal0 : acc.length ≤ at1 := by simpa using hal
          obtain ⟨c0, c1, c2, c3, c4, c5⟩ := H6.out.cs
          clear c2 c3 c4 c5 hb1 hb2
          by_cases hbad : at2 = at1 ∨ s.length ≤ at2
          · have HRE := Lib.hid (show openS ⟨s.drop at0, o, n, l⟩ = .er 2 by rw [HOS.out, if_pos hN, atI_bad HI.out HZ.out hte hbad])
            go_upto_region 7 with (fail)
            have hd : decide ((s.length : Int) ≤ (at2 : Int)) = decide (s.length ≤ at2) := by rw [decide_eq_decide]; omega
            by_cases h0 : nn = 0
            · have hn0 : ((nn : Int) == 0) = true := by simp [h0]
              clear hd
              go_quiet (fail)
              rename_i nq
              have H7 := Lib.hid (H6.out.kept ((Kept.refl w6).drewN nq))
              have O7 := Lib.hid (O6.out.drewN nq)
              generalize w6.drewN nq = W7 at *
              go_wp2_with fail
              refine (rfail_any b s at2 ov n lv 0 2 _ H7.out).mono ?_
              rintro r w8 ⟨rfl, h8, o8⟩
              obtain ⟨q1, q2⟩ := HB.out _ _ _ w8 h8 (O7.out.trans o8)
              have Z := Lib.hid (And.intro q1 q2)
              clear h8 o8 q1 q2
              go_wp2
              refine bodyPost_ret (results_none rfl _ _ _) rfl ?_
              refine ⟨rfl, Z.out.2, ?_⟩
              rw [HRE.out]
              exact ⟨_, o, n, l, hat2l, Z.out.1⟩
            · have hn0 : ((nn : Int) == 0) = false := by simp [h0]
              have hd2 : decide ((s.length : Int) ≤ (at2 : Int)) = true := decide_eq_true (by omega)
              clear hd
              go_quiet (fail)
              rename_i nq
              have H7 := Lib.hid (H6.out.kept ((Kept.refl w6).drewN nq))
              have O7 := Lib.hid (O6.out.drewN nq)
              generalize w6.drewN nq = W7 at *
              go_wp2_with fail
              refine (rfail_any b s at2 ov n lv 0 2 _ H7.out).mono ?_
              rintro r w8 ⟨rfl, h8, o8⟩
              obtain ⟨q1, q2⟩ := HB.out _ _ _ w8 h8 (O7.out.trans o8)
              have Z := Lib.hid (And.intro q1 q2)
              clear h8 o8 q1 q2
              go_wp2
              refine bodyPost_ret (results_none rfl _ _ _) rfl ?_
              refine ⟨rfl, Z.out.2, ?_⟩
              rw [HRE.out]
              exact ⟨_, o, n, l, hat2l, Z.out.1⟩
          · simp only [not_or, Nat.not_le] at hbad
            have hn0 : ((nn : Int) == 0) = false := by simp; omega
            have hd2 : decide ((s.length : Int) ≤ (at2 : Int)) = false := decide_eq_false (by omega)
            go_upto_region 7 with (fail)
            go_quiet (fail)
            rename_i nq
            have H7 := Lib.hid (H6.out.kept ((Kept.refl w6).drewN nq))
            have O7 := Lib.hid (O6.out.drewN nq)
            have T7 := Lib.hid (T6.out.kept ((Kept.refl w6).drewN nq))
            have A7 := Lib.hid (A6.out.kept ((Kept.refl w6).drewN nq))
            generalize w6.drewN nq = W7 at *
            clear H6 O6 T6 A6 c0 c1 hn0 hd2
            go_wp2_with fail
            refine (rattr_any b s at2 ov n lv _ H7.out hat2l hs).mono ?_
            intro r w8 hAP
            obtain ⟨o8, a, at3, e3, rfl, hat3, h8, he3, hadv, hsum⟩ := hAP.same hat2l
            have O8 := O7.out.trans o8
            have T8 := T7.out.ob o8 (by omega)
            have A8 := A7.out.ob o8 (rd_noA H7.out)
            have k8 := (Kept.refl w8).alloc (.cells #[sV a.1, sV a.2] 44)
            have H9 := Lib.hid (h8.kept k8)
            have O9 := Lib.hid (O8.kept k8)
            have T9 := Lib.hid (T8.kept k8)
            have A9 := Lib.hid (A8.kept k8)
            have C9 := Lib.hid (ba_new w8 a)
            have HS := Lib.hid hsum
            have hsz8 := O8.size
            clear hAP o8 h8 O8 T8 A8 k8 H7 O7 T7 A7 hsum
            go_wp2_with fail
            generalize w8.alloc (.cells #[sV a.1, sV a.2] 44) = W9 at *
            go_loopw [7] (fun v wr => ∃ k : Nat, k ≤ acc.length ∧ v = .int .i64 k ∧ Hid (Rd b s at3 ov n lv (if dup (acc.take k) a = true then er1 e3 2 else e3) wr) ∧ Hid (Bt w2.heap.size nm xa wr) ∧ Hid (AtsO w.heap.size xa acc wr) ∧ Hid (Ba w8.heap.size a wr) ∧ Hid (Ob b w wr)) (fun v _ => acc.length - (intOf v).toNat)
            case atStart => exact ⟨0, Nat.zero_le _, rfl, H9, T9, A9, C9, O9⟩
            case round =>
              obtain ⟨k, hk, rfl, hH, hT, hA, hC, hO⟩ := hrel
              clear H9 T9 A9 C9 O9
              obtain ⟨t0, t1, t2, t3⟩ := hT.out.cs
              by_cases hlt : k < acc.length
              · obtain ⟨g, cap, hxa, hcap, _⟩ := own_some hA.out (by omega)
                obtain ⟨x, hx⟩ : ∃ x, acc[k]? = some x := ⟨_, List.getElem?_eq_getElem hlt⟩
                have hDT := Lib.hid (dup_take (a := a) hx)
                have hcx : wr.cell? ⟨g, 2 * k, none⟩ = some (sV x.1) := by
                  have h7 := hA.out
                  unfold AtsO at h7
                  rw [hxa] at h7
                  rw [World.ownsRow.cellAt h7 (2 * k) (by omega), flat2 hx]
                have hcx2 : wr.cell? ⟨g, k * 2, none⟩ = some (sV x.1) := by rw [Nat.mul_comm]; exact hcx
                obtain ⟨a0, a1⟩ := hC.out.cs
                subst hxa
                have hkI : (k : Int) < acc.length := by omega
                go_upto_region 13 with (fail)
                go_quiet (fail)
                rename_i nq
                have H10 := Lib.hid (hH.out.kept ((Kept.refl wr).drewN nq))
                have O10 := Lib.hid (hO.out.drewN nq)
                have T10 := Lib.hid (hT.out.kept ((Kept.refl wr).drewN nq))
                have A10 := Lib.hid (hA.out.kept ((Kept.refl wr).drewN nq))
                have C10 := Lib.hid (hC.out.kept ((Kept.refl wr).drewN nq))
                generalize wr.drewN nq = W10 at *
                clear hH hT hA hC hO hcx hcx2 a0 a1 t0 t1 t2 t3
                have HDT2 := dup_take (a := a) hx
                generalize hxa : (x.1 == a.1) = qb at *
                cases qb with
                | true =>
                  have HDU := Lib.hid (show dup (acc.take (k + 1)) a = true by rw [HDT2, Bool.or_true])
                  clear HDT2
                  go_wp2_with fail
                  refine (rfail_any b s at3 ov n lv _ 2 _ H10.out).mono ?_
                  rintro r w11 ⟨rfl, h11, o11⟩
                  have h11' : Rd b s at3 ov n lv (if dup (acc.take (k + 1)) a = true then er1 e3 2 else e3) w11 := by
                    rw [if_pos HDU.out]
                    by_cases q : dup (acc.take k) a = true
                    · rw [if_pos q, er11] at h11; exact h11
                    · rw [if_neg q] at h11; exact h11
                  have H11 := Lib.hid h11'
                  have O11 := Lib.hid (O10.out.trans o11)
                  have T11 := Lib.hid (T10.out.ob o11 (by omega))
                  have A11 := Lib.hid (A10.out.ob o11 (rd_noA H10.out))
                  have C11 := Lib.hid (C10.out.ob o11 (by omega))
                  clear h11 h11' o11 H10 O10 T10 A10 C10
                  go_wp2
                  go_roundw
                  case rel => exact ⟨k + 1, hlt, by go_num, H11, T11, A11, C11, O11⟩
                  case measure => simp [intOf]; omega
                | false =>
                  have H11 : Hid (Rd b s at3 ov n lv (if dup (acc.take (k + 1)) a = true then er1 e3 2 else e3) W10) := Lib.hid (by
                    rw [HDT2, Bool.or_false]; exact H10.out)
                  clear H10 HDT2
                  go_wp2
                  go_roundw
                  case rel => exact ⟨k + 1, hlt, by go_num, H11, T10, A10, C10, O10⟩
                  case measure => simp [intOf]; omega
              · have hkk : k = acc.length := by omega
                have hH2 := hH.out
                rw [hkk, List.take_length] at hH2
                generalize he4 : (if dup acc a = true then er1 e3 2 else e3) = e4 at hH2
                have hI4 := atI_next HI.out HZ.out hat2l hte hbad.1 hbad.2 hat3 HS.out he4.symm
                have hadv4 : e4 = 0 → at2 < at3 := fun q => hadv (by
                  rw [q] at he4
                  rcases he3 with r | r
                  · exact r
                  · rw [r] at he4
                    split at he4 <;> cases he4)
                have HI4 := Lib.hid (show (if isN nm = true then AtI s y at3 (acc ++ [a]) e4 else (at3 ≤ s.length ∧ e4 = 2)) by rw [if_pos hN]; exact hI4)
                have he42 : e4 = 0 ∨ e4 = 2 := hI4.2.elim (fun q => Or.inl q.1) (fun q => Or.inr q.1)
                clear he4 hI4 hH hadv
                obtain ⟨xo, xc, hxs⟩ := own_slice hA.out
                obtain ⟨i0, hi, hz0, hz1, hz2⟩ := info_parts infoA
                have kx := (Kept.refl wr).alloc (.cells #[sV a.1, sV a.2] 44)
                have Hx := Lib.hid (hH2.kept kx)
                have Ox := Lib.hid (hO.out.kept kx)
                have Tx := Lib.hid (hT.out.kept kx)
                have Ax := Lib.hid (World.ownsRow.alloc hA.out (.cells #[sV a.1, sV a.2] 44))
                obtain ⟨a0, a1⟩ := hC.out.cs
                have hszx := hO.out.size
                rw [hxs] at t3
                subst hxs
                clear hH2 hO hT hA kx
                go_wp2_with (at_builtin; refine wpList_append_own _ rfl _ _ 36 rfl w.heap.size 44 i0 _ 2 32 Tryz.underlying36 hi hz0 hz1 hz2 rfl (by decide) _ _ _ rfl Ax.out ⟨wr.heap.size, 0, none⟩ 1 1 [sV a.1, sV a.2] rfl rfl ?n1 ?n2 ?n3 ?n4 ?n5 ?_)
                case n1 =>
                  intro j u hj
                  match j, hj with
                  | 0, hj => simp at hj; subst hj; simp [Addr.add]
                  | 1, hj => simp at hj; subst hj; simp [Addr.add]
                case n2 => intro u hu; simp at hu; rcases hu with rfl | rfl <;> rfl
                case n3 => unfold maxLen; omega
                case n4 => omega
                case n5 => simp; omega
                intro v' w12 hown' hgrow _
                have H13 := Hx.out.grow hgrow (NoRow.own Ax.out (by decide))
                have T13 := Tx.out.grow hgrow (NoRow.own Ax.out (by decide))
                have O13 := Ox.out.row hgrow (fun k hk => (World.ownsRow.lt Ax.out k hk).1)
                have A13 : AtsO w.heap.size v' (acc ++ [a]) w12 := by
                  unfold AtsO
                  rw [List.length_append, List.flatMap_append]
                  exact hown'
                obtain ⟨ao, cp, hv'⟩ := own_slice hown'
                have A14 := Lib.hid (show AtsO w.heap.size v' (acc ++ [a]) (w12.setCell ⟨w2.heap.size, 3, none⟩ v') from own_keep A13 ((Ob.refl w2.heap.size w12).set 3 v').grown (NoRow.of T13 (by decide)))
                have T14 := Lib.hid (T13.set3 v')
                have H14 := Lib.hid (H13.other (j := w2.heap.size) (by omega) 3 v')
                have O14 := Lib.hid (O13.setNew (j := w2.heap.size) hsw 3 v')
                have g3 := T13.fz 3
                obtain ⟨u0, u1, u2, u3⟩ := T13.cs
                clear H13 T13 O13 A13 hown' hgrow Hx Ox Tx Ax
                subst hv'
                go_wp2
                go_roundw
                case rel => exact ⟨at3, acc ++ [a], _, e4, H14, T14, A14, O14, HI4, by
                  intro q
                  have := hadv4 q
                  simp; omega, by simp; omega⟩
                case measure =>
                  obtain ⟨z0, z1, z2, z3, z4, z5⟩ := H14.out.cs
                  rw [hmes]
                  rw [z5, z1]
                  rcases he42 with rfl | rfl
                  · have := hadv4 rfl
                    simp [intOf]; omega
                  · simp [intOf]
    · have HE := Lib.hid (show openS ⟨s.drop at0, o, n, l⟩ = .er 2 by
        rw [HOS.out]
        have := hI.out
        by_cases q : isN nm = true
        · rw [if_pos q] at this ⊢
          rcases this.2 with ⟨q2, _⟩ | ⟨_, q2⟩
          · cases q2
          · rw [q2]
        · rw [if_neg q])
      go_wp2_with fail
      go_meet
      exact ⟨at1, acc, xa, 2, hH, hT, hA, hO, hale, hal2, Lib.hid (Or.inl ⟨rfl, HE.out⟩)⟩
end Go.Proofs.YtknggeplnffegaaGreatDoor
