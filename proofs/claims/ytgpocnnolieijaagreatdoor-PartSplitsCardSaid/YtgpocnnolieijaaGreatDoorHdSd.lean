/- The document's answer for package head: Cut. -/
import Derived.Test.YtgpocnnolieijaaGreatDoorHdSc
import Derived.Test.YtgpocnnolieijaaGreatDoorMgM
set_option linter.unusedSimpArgs false
set_option linter.unusedVariables false
namespace Go.Proofs.YtgpocnnolieijaaGreatDoor.Hd
open Go.ChangeShapes Go.WideShapes Go.ChangeAt Go.RowKit Go.Shelf
theorem cutR_hit (k : Nat) {r : B} (h : List.isPrefixOf [13, 10] r = true) : cutR k r = some ([], r.drop 2) := by unfold cutR; rw [if_pos h]
theorem cutR_z {r : B} (h : List.isPrefixOf [13, 10] r = false) : cutR 0 r = none := by unfold cutR; rw [h, if_neg (by decide)]
theorem cutR_e (k : Nat) {r : B} (h : List.isPrefixOf [13, 10] r = false) (he : endF r = none) : cutR k r = none := by
  cases k with
  | zero => exact cutR_z h
  | succ k => unfold cutR; rw [h, if_neg (by decide)]; (try simp only); rw [he]
theorem cutR_n (k : Nat) {r : B} {n : Nat} (h : List.isPrefixOf [13, 10] r = false) (he : endF r = some n) (hr : red (r.take n) = none) : cutR (k + 1) r = none := by
  unfold cutR; rw [h, if_neg (by decide)]; (try simp only); rw [he]; (try simp only); rw [hr]
theorem cutR_s (k : Nat) {r : B} {n : Nat} {x : Hdr} (h : List.isPrefixOf [13, 10] r = false) (he : endF r = some n) (hr : red (r.take n) = some x) : cutR (k + 1) r = (cutR k (r.drop n)).map fun y => (x :: y.1, y.2) := by
  rw [cutR, h, if_neg (by decide)]; (try simp only); rw [he]; (try simp only); rw [hr]
section
variable {r : B} {x y : UInt8}
theorem pre_cons (hx : r[0]? = some x) (hy : r[1]? = some y) : r = x :: y :: r.drop 2 := by
  have h := drop_at hx
  rw [List.drop_zero] at h
  rw [drop_at hy] at h
  exact h
theorem pre_hit (hx : r[0]? = some x) (hy : r[1]? = some y) (h1 : (x.toNat : Int) = 13) (h2 : (y.toNat : Int) = 10) : List.isPrefixOf [13, 10] r = true := by
  obtain rfl : x = 13 := UInt8.toNat_inj.1 (show x.toNat = (13 : UInt8).toNat by rw [show (13 : UInt8).toNat = 13 from rfl]; omega)
  obtain rfl : y = 10 := UInt8.toNat_inj.1 (show y.toNat = (10 : UInt8).toNat by rw [show (10 : UInt8).toNat = 10 from rfl]; omega)
  rw [pre_cons hx hy]
  simp [List.isPrefixOf]
theorem pre_no (hx : r[0]? = some x) (hy : r[1]? = some y) (h : ¬ (x.toNat : Int) = 13 ∨ ¬ (y.toNat : Int) = 10) : List.isPrefixOf [13, 10] r = false := by
  rw [pre_cons hx hy]
  cases hp : List.isPrefixOf [13, 10] (x :: y :: r.drop 2) with
  | false => rfl
  | true =>
    simp only [List.isPrefixOf, Bool.and_true, Bool.and_eq_true, beq_iff_eq] at hp
    obtain ⟨rfl, rfl⟩ := hp
    rcases h with h | h
    · exact absurd rfl h
    · exact absurd rfl h
theorem pre_short (h : r.length < 2) : List.isPrefixOf [13, 10] r = false := by
  cases hp : List.isPrefixOf [13, 10] r with
  | false => rfl
  | true =>
    rw [List.isPrefixOf_iff_prefix] at hp
    have := hp.length_le
    simp at this
    omega
end
/-- a row of headers is no row of bytes -/
theorem norow_h {B0 : Nat} {v : Value} {l : List Hdr} {w : World} (h : OwnH B0 v l w) : ∀ r, v.ownBlock = some r → ∃ cs, w.heap[r]? = some (.cells cs 68) := fun r hr => own_kind h r hr
def slen : Value → Nat
  | .slice _ n _ => n
  | _ => 0
set_option maxRecDepth 100000 in
set_option maxHeartbeats 2000000 in
theorem rcut_any (v : Value) (l : B) (w : World) (hR : BRd v l w) (hl : l.length ≤ 100000) :
    Calls Tryz.prog 48 #[v] w fun e w' => ∃ lv rv, e = .returned (.tuple #[lv, rv, .int .i64 (cE l)]) ∧ HRd lv (cL l) w' ∧ BRd rv (cR l) w' ∧ Kept w w' := by
  have R0 := Lib.hid hR
  clear hR
  go_enter Tryz.func48, Tryz.ntmps48
  go_wp2_with fail
  go_loopw [0, 5, 6, 7, 8] (fun vb vo _ _ _ wr => ∃ (r : B) (done : List Hdr), done.length ≤ 50 ∧ r.length ≤ l.length ∧ Hid (BRd vb r w) ∧ Hid (OwnH w.heap.size vo done wr) ∧ Hid (cutA l = (cutR (50 - done.length) r).map fun y => (done ++ y.1, y.2)) ∧ Hid (Kept w wr)) (fun vb _ _ _ _ _ => slen vb)
  case atStart => exact ⟨l, [], Nat.zero_le _, Nat.le_refl _, R0, Lib.hid (OwnH.nil _ _), Lib.hid (by rw [← cutA_R]; cases cutR 50 l <;> rfl), Lib.hid (Kept.refl w)⟩
  case round =>
    clear R0
    obtain ⟨r, done, hd, hrl, hB0, hO, hC, hK⟩ := hrel
    obtain ⟨oa, oc, hov⟩ := own_slice hO.out
    subst hov
    obtain ⟨va, vc, hvv⟩ := hB0.out.slice
    subst hvv
    have hB := Lib.hid (hB0.out.kept hK.out)
    have hdI : (done.length : Int) ≤ 50 := by omega
    have HEn := Lib.hid (rend_any _ r wr hB.out (by omega))
    by_cases h2 : r.length < 2
    · have h2I : ¬ (2 : Int) ≤ r.length := by omega
      have h2J : (r.length : Int) < 2 := by omega
      have he : endF r = none := by
        cases he : endF r with
        | none => rfl
        | some i => have := endF_bd _ r (Nat.le_refl _) i he; omega
      have HQ := Lib.hid (cut_none (show cutA l = none by rw [hC.out, cutR_e _ (pre_short h2) he]; rfl))
      rw [he] at HEn
      clear hC hB hO h2 he
      go_wp2_with fail
      refine HEn.out.mono ?_
      rintro e x1 ⟨rfl, rfl⟩
      go_wp2
      exact bodyPost_ret (v := .tuple #[.slice none 0 0, .slice none 0 0, .int .i64 2]) (by simp [results, Tryz.results48, go_sem]) rfl ⟨_, _, by rw [HQ.out.1], by rw [HQ.out.2.1]; exact (OwnH.nil 0 _).rd, by rw [HQ.out.2.2]; exact (OwnB.nil 0 _).rd, hK.out⟩
    have h2I : (2 : Int) ≤ r.length := by omega
    have h0I : (0 : Int) < r.length := by omega
    have h1I : (1 : Int) < r.length := by omega
    obtain ⟨x, hx⟩ : ∃ x, r[0]? = some x := ⟨_, List.getElem?_eq_getElem (by omega)⟩
    obtain ⟨y, hy⟩ : ∃ y, r[1]? = some y := ⟨_, List.getElem?_eq_getElem (by omega)⟩
    obtain ⟨g, o, c, hv', hcp, cell⟩ := hB.out.at hx
    injection hv' with ea _ ec
    subst ea ec
    obtain ⟨g2, o2, c2, hv', _, cell1⟩ := hB.out.at hy
    injection hv' with ea _ ec
    have hq := Option.some.inj ea
    injection hq with e1 e2
    subst e1 e2 ec
    rw [Nat.add_zero] at cell
    have hcells := fun (i : Nat) (z : UInt8) (hz : r[i]? = some z) => (show wr.cell? ⟨g, o + i, none⟩ = some (.int .u8 z.toNat) by
      obtain ⟨g3, o3, c3, hv3, _, cc⟩ := hB.out.at hz
      injection hv3 with ea _ _
      have hq := Option.some.inj ea
      injection hq with e1 e2
      subst e1 e2
      exact cc)
    by_cases h13 : (x.toNat : Int) = 13
    · by_cases h10 : (y.toNat : Int) = 10
      · have HQ := Lib.hid (cut_some (show cutA l = some (done, r.drop 2) by rw [hC.out, cutR_hit _ (pre_hit hx hy h13 h10)]; simp))
        rw [h13] at cell
        rw [h10] at cell1
        have HO := Lib.hid (OwnH.rd hO.out)
        have hsz := hK.out.size
        have hdl : (r.drop 2).length = r.length - 2 := by simp
        clear hx hy h13 h10 hC HEn
        by_cases hvc : vc = 2
        · have hr2 : r.length = 2 := by omega
          have hr0 : r.drop 2 = [] := List.drop_eq_nil_of_le (by omega)
          rw [hr0] at HQ
          subst hvc
          rw [hr2] at *
          have hbr : BRd (.slice (some ⟨g, o, none⟩) 0 0) [] wr := ⟨_, _, rfl, fun e => (by cases e), fun e => absurd rfl e⟩
          go_wp2_with (at_builtin; refine wpList_sliceB rfl _ _ rfl w.heap.size (.slice none 0 0) _ [] [] rfl (OwnB.nil _ _) rfl hbr (by simp) hsz ?_)
          intro v4 y4 hy4 hgy
          have K4 := Lib.hid (kept_row hK.out hgy (fun g hg => (by cases hg)))
          have O4 := Lib.hid (HRd.kept HO.out (kept_row (Kept.refl wr) hgy (fun g hg => (by cases hg))))
          obtain ⟨na, nc, hnv⟩ := own_slice hy4
          have R4 := Lib.hid hy4.rd
          subst hnv
          clear hy4 hgy
          go_wp2
          exact bodyPost_ret (v := .tuple #[_, _, .int .i64 0]) (by simp [results, Tryz.results48, go_sem]; exact ⟨rfl, rfl⟩) rfl ⟨_, _, by rw [HQ.out.1], by rw [HQ.out.2.1]; exact O4.out, by rw [HQ.out.2.2]; exact R4.out, K4.out⟩
        · have hbr : BRd (.slice (some ⟨g, o + 2, none⟩) (r.length - 2) (vc - 2)) (r.drop 2) wr := by
            have := hB.out.sub 2 r.length (by omega) (Nat.le_refl _)
            rwa [List.take_length] at this
          generalize hR2 : r.drop 2 = r2 at *
          go_wp2_with (at_builtin; refine wpList_sliceB rfl _ _ rfl w.heap.size (.slice none 0 0) _ [] r2 rfl (OwnB.nil _ _) rfl hbr (by simp; omega) hsz ?_)
          intro v4 y4 hy4 hgy
          have K4 := Lib.hid (kept_row hK.out hgy (fun g hg => (by cases hg)))
          have O4 := Lib.hid (HRd.kept HO.out (kept_row (Kept.refl wr) hgy (fun g hg => (by cases hg))))
          obtain ⟨na, nc, hnv⟩ := own_slice hy4
          have R4 := Lib.hid hy4.rd
          subst hnv
          clear hy4 hgy
          go_wp2
          exact bodyPost_ret (v := .tuple #[_, _, .int .i64 0]) (by simp [results, Tryz.results48, go_sem]; exact ⟨rfl, rfl⟩) rfl ⟨_, _, by rw [HQ.out.1], by rw [HQ.out.2.1]; exact O4.out, by rw [HQ.out.2.2]; exact R4.out, K4.out⟩
      · have hpre := pre_no hx hy (Or.inr h10)
        have b10 : ((y.toNat : Int) == 10) = false := beq_eq_false_iff_ne.2 h10
        rw [h13] at cell
        clear hx hy h13 h10
        go_wp2_with fail
        refine HEn.out.mono ?_
        rintro e x1 ⟨rfl, hxx⟩
        obtain rfl := hxx.symm
        clear HEn cell cell1
        cases hen : endF r with
        | none =>
          have HQ := Lib.hid (cut_none (show cutA l = none by rw [hC.out, cutR_e _ hpre hen]; rfl))
          rw [show eI none = -1 from rfl]
          clear hC hB hO hcells hpre hen
          go_wp2
          exact bodyPost_ret (v := .tuple #[.slice none 0 0, .slice none 0 0, .int .i64 2]) (by simp [results, Tryz.results48, go_sem]) rfl ⟨_, _, by rw [HQ.out.1], by rw [HQ.out.2.1]; exact (OwnH.nil 0 _).rd, by rw [HQ.out.2.2]; exact (OwnB.nil 0 _).rd, hK.out⟩
        | some n =>
          rw [show eI (some n) = (n : Int) from rfl]
          obtain ⟨hn2, hnl⟩ := endF_bd _ r (Nat.le_refl _) n hen
          have hn0 : ¬ (n : Int) < 0 := by omega
          by_cases h50 : done.length = 50
          · have HQ := Lib.hid (cut_none (show cutA l = none by rw [hC.out, h50, Nat.sub_self, cutR_z hpre]; rfl))
            have h50B : ((done.length : Int) == 50) = true := beq_iff_eq.2 (by omega)
            clear hC hB hO hcells hpre hen
            go_wp2
            exact bodyPost_ret (v := .tuple #[.slice none 0 0, .slice none 0 0, .int .i64 2]) (by simp [results, Tryz.results48, go_sem]) rfl ⟨_, _, by rw [HQ.out.1], by rw [HQ.out.2.1]; exact (OwnH.nil 0 _).rd, by rw [HQ.out.2.2]; exact (OwnB.nil 0 _).rd, hK.out⟩
          obtain ⟨k, hk⟩ : ∃ k, 50 - done.length = k + 1 := ⟨50 - done.length - 1, by omega⟩
          have h50B : ((done.length : Int) == 50) = false := beq_eq_false_iff_ne.2 (by omega)
          have hnI : (n : Int) ≤ r.length := by omega
          have hnc : (n : Int) ≤ vc := by omega
          have hvc0 : ¬ vc = 0 := by omega
          have HRd := Lib.hid (rread_any _ (r.take n) wr (hB.out.to n hnl) (by simp; omega))
          cases hrd : red (r.take n) with
          | none =>
            have HQ := Lib.hid (cut_none (show cutA l = none by rw [hC.out, hk, cutR_n k hpre hen hrd]; rfl))
            obtain ⟨q1, q2⟩ := rE_none hrd
            rw [q1, q2] at HRd
            clear hC hB hO hcells hpre hen hrd q1 q2
            go_wp2_with fail
            refine HRd.out.mono ?_
            rintro e x2 ⟨rfl, k2⟩
            have K2 := Lib.hid (hK.out.trans k2)
            have k3 := (Kept.refl x2).alloc (.cells z2H 68)
            have K3 := Lib.hid (K2.out.trans k3)
            clear k2 k3 HRd K2
            go_upto_region 9 with (fail)
            generalize x2.alloc (.cells z2H 68) = x3 at *
            go_wp2
            exact bodyPost_ret (v := .tuple #[.slice none 0 0, .slice none 0 0, .int .i64 2]) (by simp [results, Tryz.results48, go_sem]) rfl ⟨_, _, by rw [HQ.out.1], by rw [HQ.out.2.1]; exact (OwnH.nil 0 _).rd, by rw [HQ.out.2.2]; exact (OwnB.nil 0 _).rd, K3.out⟩
          | some q =>
            obtain ⟨qn, qt⟩ := q
            have HC2 := Lib.hid (show cutA l = (cutR (50 - (done ++ [(qn, qt)]).length) (r.drop n)).map fun y => ((done ++ [(qn, qt)]) ++ y.1, y.2) by
              rw [hC.out, hk, cutR_s k hpre hen hrd, show 50 - (done ++ [(qn, qt)]).length = k by simp; omega]
              cases cutR k (r.drop n) <;> simp)
            obtain ⟨q1, q2⟩ := rE_some hrd
            rw [q1, q2] at HRd
            have hBn := hB0.out.sub n r.length hnl (Nat.le_refl _)
            rw [List.take_length] at hBn
            have HBn := Lib.hid hBn
            have hdrl : (r.drop n).length = r.length - n := by simp
            clear hC hB hB0 hcells hpre hen hrd q1 q2 hBn
            generalize r.drop n = r2 at *
            generalize r.take n = tk at *
            go_wp2_with fail
            refine HRd.out.mono ?_
            rintro e x2 ⟨rfl, k2⟩
            have k3 := k2.alloc (.cells #[sV qn, sV qt] 68)
            have c0 := (Kept.refl (x2.alloc (.cells #[sV qn, sV qt] 68))).new 0 (v := sV qn) rfl
            have c1 := (Kept.refl (x2.alloc (.cells #[sV qn, sV qt] 68))).new 1 (v := sV qt) rfl
            clear k2 HRd
            go_upto_region 9 with (fail)
            generalize x2.alloc (.cells #[sV qn, sV qt] 68) = x3 at *
            have k4 := k3.alloc (.cells #[sV qn, sV qt] 68)
            have d0 := (Kept.refl (x3.alloc (.cells #[sV qn, sV qt] 68))).new 0 (v := sV qn) rfl
            have d1 := (Kept.refl (x3.alloc (.cells #[sV qn, sV qt] 68))).new 1 (v := sV qt) rfl
            have O4 := Lib.hid (OwnH.kept hO.out k4)
            have K4 := Lib.hid (hK.out.trans k4)
            have hB4 := K4.out.size
            have hlo : ∀ r', (Value.slice (some ⟨g, o + n, none⟩) (r.length - n) (vc - n)).ownBlock = some r' → True := fun _ _ => trivial
            clear k3 k4 hO hK hlo
            go_wp2_with (at_builtin; refine wpList_pushH rfl _ _ rfl w.heap.size _ done (qn, qt) x3.heap.size rfl O4.out rfl d0 d1 (by omega) hB4 ?_)
            intro v5 y5 hy5 hgy
            have K5 := Lib.hid (kept_row K4.out hgy (fun g hg => (World.ownsRow.lt O4.out g hg).1))
            have O5 := Lib.hid hy5
            clear hy5 hgy O4 K4 d0 d1 hB4 c0 c1
            by_cases hcn : vc = n
            · have hrn : r.length = n := by omega
              have hr20 : r2 = [] := List.length_eq_zero_iff.1 (by omega)
              subst hcn
              rw [hrn] at *
              clear hnI hnc
              go_wp2_with fail
              go_roundw
              case rel => exact ⟨[], done ++ [(qn, qt)], by simp; omega, Nat.zero_le _, Lib.hid ⟨_, _, rfl, fun e => (by cases e), fun e => absurd rfl e⟩, O5, by rw [hr20] at HC2; exact HC2, K5⟩
              case measure => simp [slen]; omega
            · go_wp2_with fail
              go_roundw
              case rel => exact ⟨r2, done ++ [(qn, qt)], by simp; omega, by omega, HBn, O5, HC2, K5⟩
              case measure => simp [slen]; omega
    · have hpre := pre_no hx hy (Or.inl h13)
      have b13 : ((x.toNat : Int) == 13) = false := beq_eq_false_iff_ne.2 h13
      clear hx hy h13
      go_wp2_with fail
      refine HEn.out.mono ?_
      rintro e x1 ⟨rfl, hxx⟩
      obtain rfl := hxx.symm
      clear HEn cell cell1
      cases hen : endF r with
      | none =>
        have HQ := Lib.hid (cut_none (show cutA l = none by rw [hC.out, cutR_e _ hpre hen]; rfl))
        rw [show eI none = -1 from rfl]
        clear hC hB hO hcells hpre hen
        go_wp2
        exact bodyPost_ret (v := .tuple #[.slice none 0 0, .slice none 0 0, .int .i64 2]) (by simp [results, Tryz.results48, go_sem]) rfl ⟨_, _, by rw [HQ.out.1], by rw [HQ.out.2.1]; exact (OwnH.nil 0 _).rd, by rw [HQ.out.2.2]; exact (OwnB.nil 0 _).rd, hK.out⟩
      | some n =>
        rw [show eI (some n) = (n : Int) from rfl]
        obtain ⟨hn2, hnl⟩ := endF_bd _ r (Nat.le_refl _) n hen
        have hn0 : ¬ (n : Int) < 0 := by omega
        by_cases h50 : done.length = 50
        · have HQ := Lib.hid (cut_none (show cutA l = none by rw [hC.out, h50, Nat.sub_self, cutR_z hpre]; rfl))
          have h50B : ((done.length : Int) == 50) = true := beq_iff_eq.2 (by omega)
          clear hC hB hO hcells hpre hen
          go_wp2
          exact bodyPost_ret (v := .tuple #[.slice none 0 0, .slice none 0 0, .int .i64 2]) (by simp [results, Tryz.results48, go_sem]) rfl ⟨_, _, by rw [HQ.out.1], by rw [HQ.out.2.1]; exact (OwnH.nil 0 _).rd, by rw [HQ.out.2.2]; exact (OwnB.nil 0 _).rd, hK.out⟩
        obtain ⟨k, hk⟩ : ∃ k, 50 - done.length = k + 1 := ⟨50 - done.length - 1, by omega⟩
        have h50B : ((done.length : Int) == 50) = false := beq_eq_false_iff_ne.2 (by omega)
        have hnI : (n : Int) ≤ r.length := by omega
        have hnc : (n : Int) ≤ vc := by omega
        have hvc0 : ¬ vc = 0 := by omega
        have HRd := Lib.hid (rread_any _ (r.take n) wr (hB.out.to n hnl) (by simp; omega))
        cases hrd : red (r.take n) with
        | none =>
          have HQ := Lib.hid (cut_none (show cutA l = none by rw [hC.out, hk, cutR_n k hpre hen hrd]; rfl))
          obtain ⟨q1, q2⟩ := rE_none hrd
          rw [q1, q2] at HRd
          clear hC hB hO hcells hpre hen hrd q1 q2
          go_wp2_with fail
          refine HRd.out.mono ?_
          rintro e x2 ⟨rfl, k2⟩
          have K2 := Lib.hid (hK.out.trans k2)
          have k3 := (Kept.refl x2).alloc (.cells z2H 68)
          have K3 := Lib.hid (K2.out.trans k3)
          clear k2 k3 HRd K2
          go_upto_region 9 with (fail)
          generalize x2.alloc (.cells z2H 68) = x3 at *
          go_wp2
          exact bodyPost_ret (v := .tuple #[.slice none 0 0, .slice none 0 0, .int .i64 2]) (by simp [results, Tryz.results48, go_sem]) rfl ⟨_, _, by rw [HQ.out.1], by rw [HQ.out.2.1]; exact (OwnH.nil 0 _).rd, by rw [HQ.out.2.2]; exact (OwnB.nil 0 _).rd, K3.out⟩
        | some q =>
          obtain ⟨qn, qt⟩ := q
          have HC2 := Lib.hid (show cutA l = (cutR (50 - (done ++ [(qn, qt)]).length) (r.drop n)).map fun y => ((done ++ [(qn, qt)]) ++ y.1, y.2) by
            rw [hC.out, hk, cutR_s k hpre hen hrd, show 50 - (done ++ [(qn, qt)]).length = k by simp; omega]
            cases cutR k (r.drop n) <;> simp)
          obtain ⟨q1, q2⟩ := rE_some hrd
          rw [q1, q2] at HRd
          have hBn := hB0.out.sub n r.length hnl (Nat.le_refl _)
          rw [List.take_length] at hBn
          have HBn := Lib.hid hBn
          have hdrl : (r.drop n).length = r.length - n := by simp
          clear hC hB hB0 hcells hpre hen hrd q1 q2 hBn
          generalize r.drop n = r2 at *
          generalize r.take n = tk at *
          go_wp2_with fail
          refine HRd.out.mono ?_
          rintro e x2 ⟨rfl, k2⟩
          have k3 := k2.alloc (.cells #[sV qn, sV qt] 68)
          have c0 := (Kept.refl (x2.alloc (.cells #[sV qn, sV qt] 68))).new 0 (v := sV qn) rfl
          have c1 := (Kept.refl (x2.alloc (.cells #[sV qn, sV qt] 68))).new 1 (v := sV qt) rfl
          clear k2 HRd
          go_upto_region 9 with (fail)
          generalize x2.alloc (.cells #[sV qn, sV qt] 68) = x3 at *
          have k4 := k3.alloc (.cells #[sV qn, sV qt] 68)
          have d0 := (Kept.refl (x3.alloc (.cells #[sV qn, sV qt] 68))).new 0 (v := sV qn) rfl
          have d1 := (Kept.refl (x3.alloc (.cells #[sV qn, sV qt] 68))).new 1 (v := sV qt) rfl
          have O4 := Lib.hid (OwnH.kept hO.out k4)
          have K4 := Lib.hid (hK.out.trans k4)
          have hB4 := K4.out.size
          have hlo : ∀ r', (Value.slice (some ⟨g, o + n, none⟩) (r.length - n) (vc - n)).ownBlock = some r' → True := fun _ _ => trivial
          clear k3 k4 hO hK hlo
          go_wp2_with (at_builtin; refine wpList_pushH rfl _ _ rfl w.heap.size _ done (qn, qt) x3.heap.size rfl O4.out rfl d0 d1 (by omega) hB4 ?_)
          intro v5 y5 hy5 hgy
          have K5 := Lib.hid (kept_row K4.out hgy (fun g hg => (World.ownsRow.lt O4.out g hg).1))
          have O5 := Lib.hid hy5
          clear hy5 hgy O4 K4 d0 d1 hB4 c0 c1
          by_cases hcn : vc = n
          · have hrn : r.length = n := by omega
            have hr20 : r2 = [] := List.length_eq_zero_iff.1 (by omega)
            subst hcn
            rw [hrn] at *
            clear hnI hnc
            go_wp2_with fail
            go_roundw
            case rel => exact ⟨[], done ++ [(qn, qt)], by simp; omega, Nat.zero_le _, Lib.hid ⟨_, _, rfl, fun e => (by cases e), fun e => absurd rfl e⟩, O5, by rw [hr20] at HC2; exact HC2, K5⟩
            case measure => simp [slen]; omega
          · go_wp2_with fail
            go_roundw
            case rel => exact ⟨r2, done ++ [(qn, qt)], by simp; omega, by omega, HBn, O5, HC2, K5⟩
            case measure => simp [slen]; omega
end Go.Proofs.YtgpocnnolieijaaGreatDoor.Hd
