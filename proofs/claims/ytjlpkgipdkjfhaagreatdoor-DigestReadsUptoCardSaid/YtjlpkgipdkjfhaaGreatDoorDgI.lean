import Derived.Test.YtjlpkgipdkjfhaaGreatDoorDgA
import Derived.Test.YtjlpkgipdkjfhaaGreatDoorTd
import Derived.Test.YtjlpkgipdkjfhaaGreatDoorEc
import Derived.Lib.AtoiAllCases
set_option linter.unusedSimpArgs false
set_option linter.unusedVariables false
namespace Go.Proofs.YtjlpkgipdkjfhaaGreatDoor.Bk.Dg
open Go.ChangeShapes Go.WideShapes Go.ChangeAt Go.RowKit Go.Shelf
open Go.Proofs.YtjlpkgipdkjfhaaGreatDoor.Dg
structure EX (w : World) : Prop where
  p : EnvP w
  t : Pt.Tab w
  er : ∃ ev, w.cell? ⟨3, 0, none⟩ = some ev ∧ (ev = .nilIface ∨ ∃ te pe, ev = .iface te pe)
theorem EX.kept {w w' : World} (h : EX w) (k : Kept w w') : EX w' := by
  obtain ⟨ev, h1, h2⟩ := h.er
  exact ⟨h.p.kept k, Kept.tab k h.t, ev, k.yes h1, h2⟩
theorem EX.e {w : World} (h : EX w) : Env w := h.p.ml
theorem uint_vl : ∀ (q : B) (n : Nat), (∀ x ∈ q, Pt.isD x = true) → Pt.vl n q ≤ 1073741824 → Lib.parseUint10 n q = .ok (Pt.vl n q)
  | [], n, _, _ => rfl
  | c :: q, n, h, hv => by
    have hc := isD_lt (h c (by simp))
    have h0 := vl_ge q (n * 10 + (c.toNat - 48))
    have hv' : Pt.vl (n * 10 + (c.toNat - 48)) q ≤ 1073741824 := hv
    have ih := uint_vl q (n * 10 + (c.toNat - 48)) (fun y hy => h y (List.mem_cons_of_mem _ hy)) hv'
    rw [Lib.parseUint10, if_pos hc, if_neg (by omega), if_neg (by omega), ih]
    rfl
theorem atoi_dec {k : Nat} (h : k ≤ 1073741824) : Lib.atoiAll (Lib.decDigits k) = .ok (k : Int) := by
  have h1 := (Pt.dec_val k k (Nat.le_refl _)).1
  have h2 := Pt.dec_is k
  have h3 := Pt.dec_ne k
  have h4 := uint_vl (Lib.decDigits k) 0 h2 (by omega)
  rw [h1] at h4
  cases hd : Lib.decDigits k with
  | nil => exact absurd hd h3
  | cons c r =>
    rw [hd] at h2 h4
    have hc := isD_lt (h2 c (by simp))
    rw [Lib.atoiAll_plain c r (by omega) (by omega)]
    unfold Lib.parseMag
    rw [if_neg (by simp), h4]
    show (if 9223372036854775808 ≤ k then _ else _) = _
    rw [if_neg (by omega)]
def AtP (s : B) (w : World) (e : Ending) (w' : World) : Prop := ∃ (n : Int) (ev : Value), e = .returned (.tuple #[iV n, ev]) ∧ (-9223372036854775808 ≤ n ∧ n ≤ 9223372036854775807) ∧ (∀ k : Nat, k ≤ 1073741824 → s = Lib.decDigits k → n = k) ∧ Kept w w'
theorem atoi_any (s : B) (w : World) (hE : EX w) (hl : s.length ≤ 1000000000000) : Calls Tryz.prog 83 #[sV s] w (AtP s w) := by
  have hsz : (ByteArray.mk s.toArray).size = s.length := List.size_toArray
  cases h : Lib.atoiAll s with
  | ok v =>
    refine (Tryz.strconv_Atoi_ok ⟨s.toArray⟩ (by omega) v h w).mono ?_
    rintro e w' ⟨rfl, hw⟩
    refine ⟨v, _, rfl, Lib.atoiAll_bounds h, fun k hk hs => ?_, ?_⟩
    · rw [hs, atoi_dec hk] at h
      injection h with h
      exact h.symm
    · rcases hw with rfl | ⟨t, rfl⟩
      · exact Kept.refl _
      · exact Kept.of_below (Lib.bytesWorld_below _ _ _)
  | «syntax» =>
    obtain ⟨ev, h1, h2⟩ := hE.p.env.2
    refine (Tryz.strconv_Atoi_syntax ⟨s.toArray⟩ (by omega) h ev w h1 h2).mono ?_
    rintro e w' ⟨N, rfl, _, _, hb⟩
    exact ⟨0, _, rfl, by omega, (fun k hk hs => by rw [hs, atoi_dec hk] at h; cases h), Kept.of_below hb⟩
  | range =>
    obtain ⟨ev, h1, h2⟩ := hE.er
    have hb := Lib.atoiSat_bounds s
    refine (Tryz.strconv_Atoi_range ⟨s.toArray⟩ (by omega) h ev w h1 h2).mono ?_
    rintro e w' ⟨N, rfl, _, _, hk⟩
    exact ⟨_, _, rfl, hb, (fun k hk hs => by rw [hs, atoi_dec hk] at h; cases h), Kept.of_below hk⟩
def GuP (s : B) (w : World) (e : Ending) (w' : World) : Prop := ∃ x y : Int, e = .returned (.tuple #[iV x, iV y]) ∧ (∀ no sub : Nat, no ≤ 1073741824 → sub < 8 → s = idT no sub → x = sub ∧ y = no) ∧ Kept w w'
set_option maxRecDepth 100000 in
set_option maxHeartbeats 2000000 in
theorem guess_any (s : B) (w : World) (hE : EX w) (hl : s.length ≤ 1000000000) : Calls Tryz.prog 42 #[sV s] w (GuP s w) := by
  have htp : (Lib.trimPrefix s [60]).length ≤ s.length := by unfold Lib.trimPrefix; split <;> simp
  have hc1 : (Lib.cut (Lib.trimPrefix s [60]) [46]).1.length ≤ s.length := by unfold Lib.cut; split <;> simp <;> omega
  have hc2 : (Lib.cut (Lib.trimPrefix s [60]) [46]).2.1.length ≤ s.length := by unfold Lib.cut; split <;> simp <;> omega
  have hz : (Lib.trimSuffix (Lib.cut (Lib.trimPrefix s [60]) [46]).2.1 clo).length ≤ s.length := by
    have : (Lib.trimSuffix (Lib.cut (Lib.trimPrefix s [60]) [46]).2.1 clo).length ≤ (Lib.cut (Lib.trimPrefix s [60]) [46]).2.1.length := by unfold Lib.trimSuffix; split <;> simp
    omega
  have HG := Lib.hid (fun (no sub : Nat) (h : s = idT no sub) => by
    have := gue_id no sub
    rw [← h] at this
    exact this)
  have HT := Lib.hid (Hd.trimPrefix_any s [60] w)
  have HC := Lib.hid (Hd.cutAt_any (Lib.trimPrefix s [60]) [46] w hE.e (by omega))
  have HE := Lib.hid hE
  unfold gueA gueZ at HG
  generalize Lib.trimPrefix s [60] = t at *
  obtain ⟨⟨u, r, b⟩, hx⟩ : ∃ x, Lib.cut t [46] = x := ⟨_, rfl⟩
  rw [hx] at HC HG hc1 hc2 hz
  simp only at HC HG hc1 hc2 hz
  have HS := Lib.hid (fun w => Hd.trimSuffix_any r clo w (by omega))
  generalize Lib.trimSuffix r clo = z at *
  have HA1 := Lib.hid (fun w hE => atoi_any u w hE (by omega))
  have HA2 := Lib.hid (fun w hE => atoi_any z w hE (by omega))
  clear hx htp hc1 hc2 hz hE
  go_enter Tryz.func42, Tryz.ntmps42
  go_wp2_with fail
  refine HT.out.mono ?_
  rintro e w1 ⟨rfl, rfl⟩
  go_wp2_with fail
  refine HC.out.mono ?_
  rintro e w2 ⟨rfl, k2⟩
  have K2 := Lib.hid k2
  clear k2
  go_wp2_with fail
  refine (HA1.out _ (HE.out.kept K2.out)).mono ?_
  rintro e w3 ⟨n, ev, rfl, hn, hnk, k3⟩
  have K3 := Lib.hid (K2.out.trans k3)
  have HN := Lib.hid hnk
  clear k3 hnk
  go_wp2_with fail
  refine (HS.out _).mono ?_
  rintro e w4 ⟨rfl, rfl⟩
  go_wp2_with fail
  refine (HA2.out _ (HE.out.kept K3.out)).mono ?_
  rintro e w5 ⟨m, ev2, rfl, hm, hmk, k5⟩
  have K5 := Lib.hid (K3.out.trans k5)
  have HM := Lib.hid hmk
  clear k5 hmk
  go_wp2
  go_ret2
  exact ⟨m, n, rfl, fun no sub h1 h2 h3 => ⟨HM.out sub (by omega) (HG.out no sub h3).2, HN.out no h1 (HG.out no sub h3).1⟩, K5.out⟩
theorem id_bytes (a b : B) : (⟨#[60]⟩ : ByteArray) ++ ⟨a.toArray⟩ ++ ⟨#[46]⟩ ++ ⟨b.toArray⟩ ++ ⟨#[64, 109, 97, 105, 108, 99, 111, 97, 99, 104, 62]⟩ = ⟨(60 :: (a ++ 46 :: (b ++ clo))).toArray⟩ := by
  apply ByteArray.ext
  simp [ByteArray.data_append, clo]
set_option maxRecDepth 100000 in
set_option maxHeartbeats 2000000 in
theorem id_any (sub no : Int) (w : World) (hE : EX w) : Calls Tryz.prog 17 #[iV sub, iV no] w fun e w' => e = .returned (.tuple #[sV (idR sub no).1, iV (idR sub no).2]) ∧ Kept w w' := by
  by_cases h : okI sub no = true
  · rw [idR_yes h]
    obtain ⟨h1, h2, h3, h4⟩ := okI_iff.1 h
    obtain ⟨m, rfl⟩ := Int.eq_ofNat_of_zero_le h1
    obtain ⟨n, rfl⟩ := Int.eq_ofNat_of_zero_le (show 0 ≤ no by omega)
    have g1 : ¬ (m : Int) < 0 := by omega
    have g2 : ¬ 8 ≤ (m : Int) := by omega
    have g3 : ¬ (n : Int) < 1 := by omega
    have g4 : ¬ 1073741824 < (n : Int) := by omega
    have l1 := dec_le10 9 n (by omega)
    have l2 := dec_le10 9 m (by omega)
    have HT := Lib.hid (show idT (n : Int).toNat (m : Int).toNat = 60 :: (Lib.decDigits n ++ 46 :: (Lib.decDigits m ++ clo)) from rfl)
    have H1 := Lib.hid (fun w hE => Pt.itoa_any n w (by omega) hE)
    have H2 := Lib.hid (fun w hE => Pt.itoa_any m w (by omega) hE)
    have HE := Lib.hid hE
    generalize idT (n : Int).toNat (m : Int).toNat = T at *
    generalize Lib.decDigits n = a at *
    generalize Lib.decDigits m = b at *
    clear h h1 h2 h3 h4 hE
    go_enter Tryz.func17, Tryz.ntmps17
    go_wp2_with fail
    refine (H1.out _ (Or.inr HE.out.t)).mono ?_
    rintro e w1 ⟨rfl, k1⟩
    have K1 := Lib.hid k1
    clear k1
    go_wp2_with fail
    refine (H2.out _ (Or.inr (HE.out.kept K1.out).t)).mono ?_
    rintro e w2 ⟨rfl, k2⟩
    have K2 := Lib.hid (K1.out.trans k2)
    clear k2
    go_wp2
    go_ret2
    refine ⟨?_, K2.out⟩
    rw [HT.out]
    exact congrArg (fun s => Ending.returned (.tuple #[Value.string s, iV 0])) (id_bytes a b)
  · rw [idR_no h]
    have hn : ¬ (0 ≤ sub ∧ sub < 8 ∧ 1 ≤ no ∧ no ≤ 1073741824) := fun e => h (okI_iff.2 e)
    clear h hE
    by_cases g1 : sub < 0
    · go_enter Tryz.func17, Tryz.ntmps17
      go_wp2
      go_ret2
      exact ⟨rfl, Kept.refl _⟩
    · by_cases g2 : 8 ≤ sub
      · clear hn
        go_enter Tryz.func17, Tryz.ntmps17
        go_wp2
        go_ret2
        exact ⟨rfl, Kept.refl _⟩
      · by_cases g3 : no < 1
        · clear hn
          go_enter Tryz.func17, Tryz.ntmps17
          go_wp2
          go_ret2
          exact ⟨rfl, Kept.refl _⟩
        · have g4 : 1073741824 < no := by omega
          clear hn
          go_enter Tryz.func17, Tryz.ntmps17
          go_wp2
          go_ret2
          exact ⟨rfl, Kept.refl _⟩
set_option maxRecDepth 100000 in
set_option maxHeartbeats 2000000 in
theorem parse_any (s : B) (w : World) (hE : EX w) (hl : s.length ≤ 1000000000) : Calls Tryz.prog 19 #[sV s] w fun e w' => e = .returned (.tuple #[iV (psR s).1, iV (psR s).2.1, iV (psR s).2.2]) ∧ Kept w w' := by
  have HG := Lib.hid (guess_any s w hE hl)
  have HE := Lib.hid hE
  have hsz : (ByteArray.mk s.toArray).size = s.length := List.size_toArray
  have HP := Lib.hid (fun x y h => ps_of (s := s) (x := x) (y := y) h)
  generalize psR s = p at *
  clear hE hl
  go_enter Tryz.func19, Tryz.ntmps19
  go_wp2_with fail
  refine HG.out.mono ?_
  rintro e w1 ⟨x, y, rfl, hx, k1⟩
  have hp := HP.out x y hx
  have K1 := Lib.hid k1
  clear k1 hx HP
  have HI := Lib.hid (id_any x y w1 (HE.out.kept K1.out))
  by_cases h : okI x y = true
  · rw [idR_yes h] at HI
    by_cases hs : idT y.toNat x.toNat = s
    · have HZ := Lib.hid (show p = (x, y, 0) by rw [hp, if_pos ⟨h, hs⟩])
      rw [hs] at HI
      clear hp h hs
      go_wp2_with fail
      refine HI.out.mono ?_
      rintro e w2 ⟨rfl, k2⟩
      have K2 := Lib.hid (K1.out.trans k2)
      clear k2
      go_wp2
      go_ret3
      exact ⟨by rw [HZ.out]; rfl, K2.out⟩
    · have HZ := Lib.hid (show p = (0, 0, 2) by rw [hp, if_neg (fun e => hs e.2)])
      have hs' : (idT y.toNat x.toNat == s) = false := beq_eq_false_iff_ne.2 hs
      clear hp h hs
      generalize idT y.toNat x.toNat = T at *
      go_wp2_with fail
      refine HI.out.mono ?_
      rintro e w2 ⟨rfl, k2⟩
      have K2 := Lib.hid (K1.out.trans k2)
      clear k2
      go_wp2
      go_ret3
      exact ⟨by rw [HZ.out]; rfl, K2.out⟩
  · rw [idR_no h] at HI
    have HZ := Lib.hid (show p = (0, 0, 2) by rw [hp, if_neg (fun e => h e.1)])
    clear hp h
    go_wp2_with fail
    refine HI.out.mono ?_
    rintro e w2 ⟨rfl, k2⟩
    have K2 := Lib.hid (K1.out.trans k2)
    clear k2
    go_wp2
    go_ret3
    exact ⟨by rw [HZ.out]; rfl, K2.out⟩
theorem sbj_bytes (a b c : B) : (⟨#[68, 105, 103, 101, 115, 116, 32]⟩ : ByteArray) ++ ⟨a.toArray⟩ ++ ⟨#[58, 32]⟩ ++ ⟨b.toArray⟩ ++ ⟨c.toArray⟩ = ⟨(dgW ++ (a ++ ([58, 32] ++ (b ++ c)))).toArray⟩ := by
  apply ByteArray.ext
  simp [ByteArray.data_append, dgW]
set_option maxRecDepth 100000 in
set_option maxHeartbeats 2000000 in
theorem subject_any (no n : Nat) (w : World) (hE : EX w) (h1 : no ≤ 1073741824) (h2 : n ≤ 1000000000000) : Calls Tryz.prog 28 #[iV no, iV n] w fun e w' => e = .returned (sV (sbj no n)) ∧ Kept w w' := by
  have l1 := dec_le10 9 no (by omega)
  have l2 := dec_le10 13 n (by omega)
  have HT := Lib.hid (show sbj no n = dgW ++ (Lib.decDigits no ++ ([58, 32] ++ (Lib.decDigits n ++ noun n))) from rfl)
  have H1 := Lib.hid (fun w hE => Pt.itoa_any no w (by omega) hE)
  have H2 := Lib.hid (fun w hE => Pt.itoa_any n w (by omega) hE)
  have HE := Lib.hid hE
  have HN := Lib.hid (show noun n = if n = 1 then enS else enP from rfl)
  generalize sbj no n = T at *
  generalize Lib.decDigits no = a at *
  generalize Lib.decDigits n = b at *
  generalize noun n = c at *
  clear hE
  by_cases h : (n : Int) = 1
  · have HZ := Lib.hid (show c = enS by rw [HN.out, if_pos (by omega)])
    rw [h] at H2 ⊢
    clear h HN h2
    go_enter Tryz.func28, Tryz.ntmps28
    go_wp2_with fail
    refine (H1.out _ (Or.inr HE.out.t)).mono ?_
    rintro e w1 ⟨rfl, k1⟩
    have K1 := Lib.hid k1
    clear k1
    go_wp2_with fail
    refine (H2.out _ (Or.inr (HE.out.kept K1.out).t)).mono ?_
    rintro e w2 ⟨rfl, k2⟩
    have K2 := Lib.hid (K1.out.trans k2)
    clear k2
    go_wp2
    go_ret
    refine ⟨?_, K2.out⟩
    rw [HT.out, HZ.out]
    exact congrArg (fun s => Ending.returned (Value.string s)) (sbj_bytes a b enS)
  · have HZ := Lib.hid (show c = enP by rw [HN.out, if_neg (by omega)])
    clear HN
    go_enter Tryz.func28, Tryz.ntmps28
    go_wp2_with fail
    refine (H1.out _ (Or.inr HE.out.t)).mono ?_
    rintro e w1 ⟨rfl, k1⟩
    have K1 := Lib.hid k1
    clear k1
    go_wp2_with fail
    refine (H2.out _ (Or.inr (HE.out.kept K1.out).t)).mono ?_
    rintro e w2 ⟨rfl, k2⟩
    have K2 := Lib.hid (K1.out.trans k2)
    clear k2
    go_wp2
    go_ret
    refine ⟨?_, K2.out⟩
    rw [HT.out, HZ.out]
    exact congrArg (fun s => Ending.returned (Value.string s)) (sbj_bytes a b enP)
end Go.Proofs.YtjlpkgipdkjfhaaGreatDoor.Bk.Dg
