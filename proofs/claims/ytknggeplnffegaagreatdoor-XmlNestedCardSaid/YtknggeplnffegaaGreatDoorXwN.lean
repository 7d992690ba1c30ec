/- The law XmlNested, walked. -/
import Derived.Test.YtknggeplnffegaaGreatDoorXwB
import Derived.Test.YtknggeplnffegaaGreatDoorXmX
set_option linter.unusedVariables false
namespace Go.Proofs.YtknggeplnffegaaGreatDoor
open Go.ChangeShapes Go.WideShapes Go.ChangeAt Go.RowKit
open En Xm
theorem wpList_pushS {ops : Array Oper} {rest : List Oper} {op : Oper} {a : Act} {w : World} {Q : Exit → Act → World → Prop} (hg : op.guard = none) (sx x : Operand) (ho : op.op = .call { callee := .builtin .append, args := #[sx, x], argTypes := #[40, 40] })
    (B0 : Nat) (v : Value) (ls : List B) (t : B) (k : Nat) (hs : a.eval sx = v) (hO : OwnS B0 v ls w) (hx : a.eval x = .slice (some ⟨k, 0, none⟩) 1 1) (hc : w.cell? ⟨k, 0, none⟩ = some (sV t)) (hl : ls.length ≤ 1000) (hB : B0 ≤ w.heap.size)
    (h : ∀ v' w', OwnS B0 v' (ls ++ [t]) w' → w.grownBy w' v.ownBlock → wpList Tryz.prog ops Q rest (a.put op.dst v') w') : wpList Tryz.prog ops Q (op :: rest) a w :=
  wpList_plain hg fun K hK => wp_pushS sx x ho B0 v ls t k hs hO hx hc hl hB (fun v' w' h1 h2 => hK _ _ (h v' w' h1 h2))
/-- what stands open behind so many pieces -/
def NsI (l : List Tk) (i : Nat) (o : List B) (n : Nat) : Prop := okL o n (l.drop i) ∧ (o ≠ [] → 1 ≤ n) ∧ (0 < i → 1 ≤ n) ∧ o.length ≤ 20
theorem NsI.next {l : List Tk} {i : Nat} {o : List B} {n : Nat} {t : Tk} (h : NsI l i o n) (ht : l[i]? = some t) :
    (0 < i → o ≠ []) ∧ ((t.1 = 0 ∧ o.length < 20) ∨ (t.1 = 1 ∧ o ≠ [] ∧ o.getLast? = some t.2.1) ∨ (t.1 = 2 ∧ t.2.2.1 ≠ [] ∧ o ≠ [])) ∧ ∃ n', NsI l (i + 1) (nx o t) n' := by
  obtain ⟨h1, h2, h3, h4⟩ := h
  have hi := (List.getElem?_eq_some_iff.1 ht).1
  rw [List.drop_eq_getElem_cons hi, show l[i] = t from (List.getElem?_eq_some_iff.1 ht).2] at h1
  obtain ⟨q1, q2, n', q3, q4⟩ := okL_step h1 h2
  refine ⟨fun h => q1 (h3 h), q2, n', q4, fun _ => q3, fun _ => q3, ?_⟩
  unfold nx
  rcases q2 with ⟨e, hl⟩ | ⟨e, _, _⟩ | ⟨e, _, _⟩
  · rw [if_pos e]; simp; omega
  · rw [if_neg (by omega), if_pos e]; simp; omega
  · rw [if_neg (by omega), if_neg (by omega)]; exact h4
theorem quad_new (x : World) (a b c d : Value) (t : TypeId) : (x.alloc (.cells #[a, b, c, d] t)).cell? ⟨x.heap.size, 0, none⟩ = some a ∧ (x.alloc (.cells #[a, b, c, d] t)).cell? ⟨x.heap.size, 1, none⟩ = some b ∧ (x.alloc (.cells #[a, b, c, d] t)).cell? ⟨x.heap.size, 2, none⟩ = some c ∧ (x.alloc (.cells #[a, b, c, d] t)).cell? ⟨x.heap.size, 3, none⟩ = some d :=
  ⟨(Kept.refl _).new 0 rfl, (Kept.refl _).new 1 rfl, (Kept.refl _).new 2 rfl, (Kept.refl _).new 3 rfl⟩
theorem NsI.start {l : List Tk} (h : okL [] 0 l) : NsI l 0 [] 0 := ⟨h, fun q => absurd rfl q, fun q => absurd q (by omega), by simp⟩
theorem NsI.last {l : List Tk} {i : Nat} {o : List B} {n : Nat} (h : NsI l i o n) (hi : l.length ≤ i) : o = [] := by
  have := h.1
  rw [List.drop_eq_nil_of_le hi] at this
  exact this.1
set_option maxRecDepth 100000 in
set_option maxHeartbeats 8000000 in
theorem nested8_walk (v : Value) (doc : B) (w : World) (hB : BRd v doc w) (hd : doc.length ≤ maxLen) (hE : EX w.heap.size w) : Calls Tryz.prog 6 #[v] w fun e w' => e = .returned (.bool true) ∧ Kept w w' := by
  unfold maxLen at hd
  obtain ⟨g, c, hv⟩ := hB.slice
  subst hv
  have HB := Lib.hid hB; have HE := Lib.hid hE
  clear hB hE
  go_enter Tryz.func6, Tryz.ntmps6
  go_wp2_with fail
  refine (awake8_any w HE.out).mono ?_
  rintro e x1 ⟨rfl, k1⟩
  have K1 := Lib.hid k1
  clear k1
  by_cases hs : 2000 < (doc.length : Int)
  · go_wp2
    go_ret
    exact ⟨rfl, K1.out⟩
  have hl : doc.length ≤ 2000 := by omega
  go_wp2_with fail
  refine (ptokens_any g doc.length c doc x1 ((HE.out.kept K1.out).mono K1.out.size) rfl (fun _ => (HB.out.kept K1.out).conv)).mono ?_
  rintro e x2 ⟨k2, v2, rfl, hT⟩
  have K2 := Lib.hid (K1.out.trans k2)
  have T2 := Lib.hid hT.rd
  obtain ⟨a2, c2, hv2⟩ := hT.rd.slice
  subst hv2
  clear k2 hT HB K1
  have F := (Fw.at (tok_fw doc) (by omega)).1
  by_cases hz : (tok doc).2 = 0
  · have hok := (tok_ok (b := doc) (m := (tok doc).1) (by rw [← hz])).1
    have H0 := Lib.hid (NsI.start hok)
    have H2 := Lib.hid (okL_two hok)
    have hne : ((tok doc).2 != 0) = false := by simp [hz]
    clear hok
    generalize (tok doc).1 = l at *
    generalize (tok doc).2 = ee at *
    subst hz
    clear hne
    go_wp2_with fail
    go_loopw [6, 7] (fun vo vi wr => ∃ (i : Nat) (o : List B) (n : Nat), i ≤ l.length ∧ o.length ≤ 20 ∧ vi = .int .i64 i ∧ Hid (Kept x2 wr) ∧ Hid (OwnS x2.heap.size vo o wr) ∧ Hid (NsI l i o n)) (fun _ vi _ => l.length - (intOf vi).toNat)
    case atStart => exact ⟨0, [], 0, Nat.zero_le _, by simp, rfl, Lib.hid (Kept.refl _), Lib.hid (World.ownsRow_nil _ _ _ _), H0⟩
    case round =>
      obtain ⟨i, o, n, hi, hol, rfl, hK, hO, hN⟩ := hrel
      rename_i vo _
      by_cases hlt : i < l.length
      · have hltI : (i : Int) < l.length := by omega
        obtain ⟨t, ht⟩ : ∃ t, l[i]? = some t := ⟨_, List.getElem?_eq_getElem hlt⟩
        obtain ⟨-, g, of, x, ha, hc, d0, d1, d2, d3, hx⟩ := (T2.out.kept hK.out).at ht
        obtain ⟨pa, ca, hxs⟩ := hx.slice
        subst ha hxs
        obtain ⟨q1, q2, n', q3⟩ := hN.out.next ht
        have HN2 := Lib.hid q3
        clear hN ht hx q3
        obtain ⟨k1, n1, s1, al1⟩ := t
        simp only at d0 d1 d2 d3 q2
        obtain ⟨oa, oc, hov⟩ := own_slice hO.out
        subst hov
        go_upto_region 12 with (fail)
        have tq := quad_new wr (iV k1) (sV n1) (sV s1) (.slice pa al1.length ca) 38
        have kx : Kept wr (wr.alloc (.cells #[iV k1, sV n1, sV s1, .slice pa al1.length ca] 38)) := (Kept.refl wr).alloc _
        have KX := Lib.hid (hK.out.trans kx)
        have OX := Lib.hid (show OwnS x2.heap.size _ o _ from own_keep hO.out (kx.grownBy none) (fun r hr => by cases hr))
        generalize wr.alloc (.cells #[iV k1, sV n1, sV s1, .slice pa al1.length ca] 38) = X at *
        generalize wr.heap.size = k at *
        obtain ⟨t0, t1, t2, t3⟩ := tq
        clear hK hO d0 d1 d2 d3 kx
        have hBX : x2.heap.size ≤ X.heap.size := KX.out.size
        have hgd : (0 : Int) < i → ((o.length : Int) == 0) = false := fun h => by
          have := q1 (by omega)
          have := mt List.length_eq_zero_iff.1 this
          simp; exact q1 (by omega)
        have GD := Lib.hid hgd
        clear hgd q1
        rcases q2 with ⟨rfl, hl20⟩ | ⟨rfl, hone, hlast⟩ | ⟨rfl, hs1, hone⟩
        · by_cases hi0 : (0 : Int) < i
          · have hlz := GD.out hi0
            have k1x : Kept X (X.alloc (.cells #[sV n1] 9)) := (Kept.refl X).alloc _
            have OX1 := Lib.hid (show OwnS x2.heap.size _ o _ from own_keep OX.out (k1x.grownBy none) (fun r hr => by cases hr))
            have hc1 : (X.alloc (.cells #[sV n1] 9)).cell? ⟨X.heap.size, 0, none⟩ = some (sV n1) := (Kept.refl _).new 0 rfl
            have KX1 := Lib.hid (KX.out.trans k1x)
            have hB1 : x2.heap.size ≤ (X.alloc (.cells #[sV n1] 9)).heap.size := KX1.out.size
            clear k1x KX
            go_upto_region 18 with (fail)
            go_wp2_with (at_builtin; refine wpList_pushS rfl _ _ rfl x2.heap.size (.slice oa o.length oc) o n1 X.heap.size rfl OX1.out rfl hc1 (by omega) hB1 ?_)
            intro v' z hz hgz
            have hNN : NsI l (i + 1) (o ++ [n1]) n' := HN2.out
            have hll : (o ++ [n1]).length ≤ 20 := by simp; omega
            obtain ⟨va, vc, hvv⟩ := own_slice hz
            subst hvv
            have KZ := Lib.hid (kept_row KX1.out hgz (fun g hg => (World.ownsRow.lt OX1.out g hg).1))
            have OZ := Lib.hid hz
            have NZ := Lib.hid hNN
            clear hz hgz hNN HN2 OX1 KX1 OX hc1 t0 t1 t2 t3
            generalize o ++ [n1] = o' at *
            have h20 : ¬ (20 : Int) < (o'.length : Int) := by omega
            go_wp2
            go_roundw
            case rel => exact ⟨i + 1, o', n', hlt, hll, by go_num, KZ, OZ, NZ⟩
            case measure => simp [intOf]; omega
          · clear GD
            have k1x : Kept X (X.alloc (.cells #[sV n1] 9)) := (Kept.refl X).alloc _
            have OX1 := Lib.hid (show OwnS x2.heap.size _ o _ from own_keep OX.out (k1x.grownBy none) (fun r hr => by cases hr))
            have hc1 : (X.alloc (.cells #[sV n1] 9)).cell? ⟨X.heap.size, 0, none⟩ = some (sV n1) := (Kept.refl _).new 0 rfl
            have KX1 := Lib.hid (KX.out.trans k1x)
            have hB1 : x2.heap.size ≤ (X.alloc (.cells #[sV n1] 9)).heap.size := KX1.out.size
            clear k1x KX
            go_upto_region 18 with (fail)
            go_wp2_with (at_builtin; refine wpList_pushS rfl _ _ rfl x2.heap.size (.slice oa o.length oc) o n1 X.heap.size rfl OX1.out rfl hc1 (by omega) hB1 ?_)
            intro v' z hz hgz
            have hNN : NsI l (i + 1) (o ++ [n1]) n' := HN2.out
            have hll : (o ++ [n1]).length ≤ 20 := by simp; omega
            obtain ⟨va, vc, hvv⟩ := own_slice hz
            subst hvv
            have KZ := Lib.hid (kept_row KX1.out hgz (fun g hg => (World.ownsRow.lt OX1.out g hg).1))
            have OZ := Lib.hid hz
            have NZ := Lib.hid hNN
            clear hz hgz hNN HN2 OX1 KX1 OX hc1 t0 t1 t2 t3
            generalize o ++ [n1] = o' at *
            have h20 : ¬ (20 : Int) < (o'.length : Int) := by omega
            go_wp2
            go_roundw
            case rel => exact ⟨i + 1, o', n', hlt, hll, by go_num, KZ, OZ, NZ⟩
            case measure => simp [intOf]; omega
        · by_cases hi0 : (0 : Int) < i
          · have hlz := GD.out hi0
            have hlen : o.length ≠ 0 := fun e => hone (List.length_eq_zero_iff.1 e)
            obtain ⟨g2, cap, hov, hcap, hcm⟩ := own_some OX.out hlen
            injection hov with e1 _ e3
            subst e1 e3
            have hcl : X.cell? ⟨g2, o.length - 1, none⟩ = some (sV n1) := by
              rw [World.ownsRow.cellAt OX.out (o.length - 1) (by omega), List.getElem?_map, last_of hone, hlast]; rfl
            have hne0 : ((o.length : Int) == 0) = false := by simp; exact hone
            obtain ⟨i0, hi2, hz0, hz1, hz2⟩ := info_parts infoS
            have hnl : ((o.length : Int) - 1) = ((o.length - 1 : Nat) : Int) := by omega
            have hcells : ∀ y, Kept X y → ∀ (j : Nat) (u : Value), (o.dropLast.map sV)[j]? = some u → y.cell? ((⟨g2, 0, none⟩ : Addr).add j) = some u := by
              intro y ky j u hu
              have hjl : j < o.length - 1 := by
                have := (List.getElem?_eq_some_iff.1 hu).1
                simpa using this
              have e1 := World.ownsRow.cells OX.out (g := g2) rfl j u (by
                rw [List.getElem?_map] at hu ⊢
                rw [List.getElem?_dropLast, if_pos hjl] at hu
                exact hu)
              rw [Addr.add_lit] at e1 ⊢
              exact ky.yes e1
            have HC := Lib.hid hcells
            have hsl : ∀ W : World, (Instr.slice 40 (.slice (some ⟨g2, 0, none⟩) o.length oc) none (some (iV ((o.length : Int) - 1))) none).run Tryz.prog W = .ok (.slice (some ⟨g2, 0, none⟩) (o.length - 1) oc) W := fun W => by
              rw [run_slice_h W 40 _ _ _ (by kernel_rfl) .i64 _ (by omega) (by omega), hnl, Int.toNat_natCast, show Tryz.prog.elem 40 = 9 by kernel_rfl]
              simp [sliced, Result.andThen]
              intro _
              rfl
            have HSL := Lib.hid hsl
            clear hcells hlast hsl
            go_upto_region 20 with (fail)
            go_quiet (fail)
            have KY := Lib.hid (KX.out.trans ((Kept.refl X).drewN nq))
            have hBY : x2.heap.size ≤ (X.drewN nq).heap.size := KY.out.size
            have hcy := HC.out _ ((Kept.refl X).drewN nq)
            generalize X.drewN nq = Y at *
            have hsl := HSL.out
            clear KX OX hcl HC t0 t1 t2 t3 HSL
            go_wp2_with (at_builtin; refine wpList_append_own _ rfl _ _ 40 rfl x2.heap.size 9 i0 _ 1 16 Tryz.underlying40 hi2 hz0 hz1 hz2 rfl (by decide) _ 0 [] rfl (World.ownsRow_nil _ _ _ _) ⟨g2, 0, none⟩ (o.length - 1) oc (o.dropLast.map sV) rfl ?n1 hcy ?n2 ?n3 ?n4 hBY ?_)
            case n2 => intro u hu; replace hu := List.dropLast_subset _ hu; rw [List.mem_map] at hu; obtain ⟨y, _, rfl⟩ := hu; rfl
            case n3 => unfold maxLen; omega
            case n4 => omega
            intro v' z hz hgz _
            have hNN : NsI l (i + 1) o.dropLast n' := HN2.out
            have OZ : Hid (OwnS x2.heap.size v' o.dropLast z) := Lib.hid (by
              unfold OwnS
              rw [List.length_dropLast]
              simpa using hz)
            have hll : o.dropLast.length ≤ 20 := by simp; omega
            obtain ⟨va, vc, hvv⟩ := own_slice OZ.out
            subst hvv
            have KZ := Lib.hid (kept_row KY.out hgz (fun g hg => by cases hg))
            have NZ := Lib.hid hNN
            clear hz hgz hNN HN2 KY hcy
            generalize o.dropLast = o' at *
            have h20 : ¬ (20 : Int) < (o'.length : Int) := by omega
            go_wp2
            go_roundw
            case rel => exact ⟨i + 1, o', n', hlt, hll, by go_num, KZ, OZ, NZ⟩
            case measure => simp [intOf]; omega
          · clear GD
            have hlen : o.length ≠ 0 := fun e => hone (List.length_eq_zero_iff.1 e)
            obtain ⟨g2, cap, hov, hcap, hcm⟩ := own_some OX.out hlen
            injection hov with e1 _ e3
            subst e1 e3
            have hcl : X.cell? ⟨g2, o.length - 1, none⟩ = some (sV n1) := by
              rw [World.ownsRow.cellAt OX.out (o.length - 1) (by omega), List.getElem?_map, last_of hone, hlast]; rfl
            have hne0 : ((o.length : Int) == 0) = false := by simp; exact hone
            obtain ⟨i0, hi2, hz0, hz1, hz2⟩ := info_parts infoS
            have hnl : ((o.length : Int) - 1) = ((o.length - 1 : Nat) : Int) := by omega
            have hcells : ∀ y, Kept X y → ∀ (j : Nat) (u : Value), (o.dropLast.map sV)[j]? = some u → y.cell? ((⟨g2, 0, none⟩ : Addr).add j) = some u := by
              intro y ky j u hu
              have hjl : j < o.length - 1 := by
                have := (List.getElem?_eq_some_iff.1 hu).1
                simpa using this
              have e1 := World.ownsRow.cells OX.out (g := g2) rfl j u (by
                rw [List.getElem?_map] at hu ⊢
                rw [List.getElem?_dropLast, if_pos hjl] at hu
                exact hu)
              rw [Addr.add_lit] at e1 ⊢
              exact ky.yes e1
            have HC := Lib.hid hcells
            have hsl : ∀ W : World, (Instr.slice 40 (.slice (some ⟨g2, 0, none⟩) o.length oc) none (some (iV ((o.length : Int) - 1))) none).run Tryz.prog W = .ok (.slice (some ⟨g2, 0, none⟩) (o.length - 1) oc) W := fun W => by
              rw [run_slice_h W 40 _ _ _ (by kernel_rfl) .i64 _ (by omega) (by omega), hnl, Int.toNat_natCast, show Tryz.prog.elem 40 = 9 by kernel_rfl]
              simp [sliced, Result.andThen]
              intro _
              rfl
            have HSL := Lib.hid hsl
            clear hcells hlast hsl
            go_upto_region 20 with (fail)
            go_quiet (fail)
            have KY := Lib.hid (KX.out.trans ((Kept.refl X).drewN nq))
            have hBY : x2.heap.size ≤ (X.drewN nq).heap.size := KY.out.size
            have hcy := HC.out _ ((Kept.refl X).drewN nq)
            generalize X.drewN nq = Y at *
            have hsl := HSL.out
            clear KX OX hcl HC t0 t1 t2 t3 HSL
            go_wp2_with (at_builtin; refine wpList_append_own _ rfl _ _ 40 rfl x2.heap.size 9 i0 _ 1 16 Tryz.underlying40 hi2 hz0 hz1 hz2 rfl (by decide) _ 0 [] rfl (World.ownsRow_nil _ _ _ _) ⟨g2, 0, none⟩ (o.length - 1) oc (o.dropLast.map sV) rfl ?n1 hcy ?n2 ?n3 ?n4 hBY ?_)
            case n2 => intro u hu; replace hu := List.dropLast_subset _ hu; rw [List.mem_map] at hu; obtain ⟨y, _, rfl⟩ := hu; rfl
            case n3 => unfold maxLen; omega
            case n4 => omega
            intro v' z hz hgz _
            have hNN : NsI l (i + 1) o.dropLast n' := HN2.out
            have OZ : Hid (OwnS x2.heap.size v' o.dropLast z) := Lib.hid (by
              unfold OwnS
              rw [List.length_dropLast]
              simpa using hz)
            have hll : o.dropLast.length ≤ 20 := by simp; omega
            obtain ⟨va, vc, hvv⟩ := own_slice OZ.out
            subst hvv
            have KZ := Lib.hid (kept_row KY.out hgz (fun g hg => by cases hg))
            have NZ := Lib.hid hNN
            clear hz hgz hNN HN2 KY hcy
            generalize o.dropLast = o' at *
            have h20 : ¬ (20 : Int) < (o'.length : Int) := by omega
            go_wp2
            go_roundw
            case rel => exact ⟨i + 1, o', n', hlt, hll, by go_num, KZ, OZ, NZ⟩
            case measure => simp [intOf]; omega
        · by_cases hi0 : (0 : Int) < i
          · have hlz := GD.out hi0
            have hne0 : ((o.length : Int) == 0) = false := by simp; exact hone
            have h20 : ¬ (20 : Int) < (o.length : Int) := by omega
            have hie : List.isEmpty s1 = false := by simp [hs1]
            have NZ := Lib.hid (show NsI l (i + 1) o n' from HN2.out)
            clear HN2
            go_wp2
            go_roundw
            case rel => exact ⟨i + 1, o, n', hlt, hol, by go_num, KX, OX, NZ⟩
            case measure => simp [intOf]; omega
          · clear GD
            have hne0 : ((o.length : Int) == 0) = false := by simp; exact hone
            have h20 : ¬ (20 : Int) < (o.length : Int) := by omega
            have hie : List.isEmpty s1 = false := by simp [hs1]
            have NZ := Lib.hid (show NsI l (i + 1) o n' from HN2.out)
            clear HN2
            go_wp2
            go_roundw
            case rel => exact ⟨i + 1, o, n', hlt, hol, by go_num, KX, OX, NZ⟩
            case measure => simp [intOf]; omega
      · have hltI : ¬ (i : Int) < l.length := by omega
        have hoe := hN.out.last (by omega)
        subst hoe
        obtain ⟨h2, nm, ats, r, hlr⟩ := H2.out
        have h2I : (2 : Int) ≤ l.length := by omega
        obtain ⟨-, g, of, x, ha, hc, d0, d1, d2, d3, hx⟩ := (T2.out.kept hK.out).at (show l[0]? = some (tO nm ats) by rw [hlr]; rfl)
        rw [Nat.zero_mul] at d0
        have d0' : wr.cell? ⟨g, of, none⟩ = some (iV 0) := d0
        subst ha
        obtain ⟨oa, oc, hov⟩ := own_slice hO.out
        subst hov
        have KF := Lib.hid (K2.out.trans hK.out)
        clear d0 d1 d2 d3 hx hlr hO hK hN
        go_wp2
        go_ret
        exact ⟨rfl, KF.out⟩
  · have hne : ((tok doc).2 != 0) = true := by simp [hz]
    have hl0 := tok_er (b := doc) (l := (tok doc).1) (e := (tok doc).2) rfl hz
    rw [hl0]
    generalize (tok doc).2 = ee at *
    clear hl0
    go_wp2
    go_ret
    exact ⟨rfl, K2.out⟩
end Go.Proofs.YtknggeplnffegaaGreatDoor
