/- Each line of a header has at most 76 bytes, if not of one word, or the name and one, and only bytes from 32 to 126; each but the first one begins by a blank. -/
import Derived.Test.YtdhhlcgmkkpldaaDoorHdWB
set_option linter.unusedSimpArgs false
set_option linter.unusedVariables false
namespace Go.Proofs.YtdhhlcgmkkpldaaDoor.Hd
open Go.ChangeShapes Go.WideShapes Go.ChangeAt Go.RowKit Go.Shelf
/-- are lines so: the line has k bytes, j blanks, and is the first one -/
def okS : Nat → Nat → Bool → B → Bool
  | k, _, _, [] => decide (k = 0)
  | k, j, f, c :: r => if c.toNat = 13 then ((r.head?.map (·.toNat)) == some 10) && (!(decide (76 < k) && decide (1 < j)) && okS k j f r) else if c.toNat = 10 then okS 0 0 false r else rng c && (!(decide (k = 0) && (!f && decide (c.toNat ≠ 32))) && okS (k + 1) (if c.toNat = 32 then j + 1 else j) f r)
theorem okS_vis {k j : Nat} {f : Bool} {c : UInt8} {r : B} (hc : vis c = true) (h : 0 < k ∨ f = true) : okS k j f (c :: r) = okS (k + 1) j f r := by
  unfold vis at hc
  rw [Bool.and_eq_true, decide_eq_true_eq, decide_eq_true_eq] at hc
  rw [okS, if_neg (by omega), if_neg (by omega), if_neg (by omega)]
  have h1 : rng c = true := by unfold rng; rw [decide_eq_true (by omega), decide_eq_true (by omega)]; rfl
  have h2 : (decide (k = 0) && (!f && decide (c.toNat ≠ 32))) = false := by
    rcases h with h | h
    · rw [decide_eq_false (by omega)]; rfl
    · rw [h]; simp
  rw [h1, h2]; rfl
theorem okS_word : ∀ (w : B) (k j : Nat) (f : Bool) (r : B), (∀ c ∈ w, vis c = true) → (0 < k ∨ f = true) → okS k j f (w ++ r) = okS (k + w.length) j f r
  | [], k, j, f, r, _, _ => rfl
  | c :: w, k, j, f, r, hw, h => by
    rw [List.cons_append, okS_vis (hw c (by simp)) h, okS_word w (k + 1) j f r (fun x hx => hw x (by simp [hx])) (Or.inl (by omega)), List.length_cons]
    congr 1; omega
theorem okS_fil : ∀ (ws : List B) (k j : Nat) (f : Bool), (∀ w ∈ ws, Wd w) → 0 < k → (k ≤ 76 ∨ j ≤ 1) → okS k j f (fil k ws) = true
  | [], k, j, f, _, _, h => by
    show okS k j f [13, 10] = true
    have h2 : (decide (76 < k) && decide (1 < j)) = false := by
      rcases h with h | h
      · rw [decide_eq_false (by omega)]; rfl
      · rw [decide_eq_false (show ¬ 1 < j by omega)]; simp
    rw [okS, if_pos (by decide), h2]
    rfl
  | w :: ws, k, j, f, hw, hk, h => by
    have h2 : (decide (76 < k) && decide (1 < j)) = false := by
      rcases h with h | h
      · rw [decide_eq_false (by omega)]; rfl
      · rw [decide_eq_false (show ¬ 1 < j by omega)]; simp
    have hv := (hw w (by simp)).2
    have hws : ∀ x ∈ ws, Wd x := fun x hx => hw x (by simp [hx])
    rw [fil]
    split
    · rw [okS, if_pos (by decide), h2, okS, if_neg (by decide), if_pos (by decide), okS, if_neg (by decide), if_neg (by decide), if_pos (by decide), okS_word w _ _ _ _ hv (Or.inl (by omega))]
      have e := okS_fil ws (1 + w.length) 1 false hws (by omega) (Or.inr (by omega))
      rw [show 0 + 1 + w.length = 1 + w.length by omega, show 0 + 1 = 1 from rfl, e]
      rfl
    · rename_i hle
      rw [okS, if_neg (by decide), if_neg (by decide), if_pos (by decide), okS_word w _ _ _ _ hv (Or.inl (by omega)), okS_fil ws (k + 1 + w.length) (j + 1) f hws (by omega) (Or.inl (by omega))]
      have : decide ((32 : UInt8).toNat ≠ 32) = false := by decide
      rw [this]
      simp [rng]
theorem isNm_vis {c : UInt8} (h : isNm c = true) : vis c = true := by
  unfold isNm at h
  unfold vis
  simp only [Bool.or_eq_true, Bool.and_eq_true, decide_eq_true_eq] at h ⊢
  omega
theorem okS_line {h : Hdr} (hk : okH h = true) : okS 0 0 true (lnH h) = true := by
  obtain ⟨hn, _⟩ := okH_nam hk
  obtain ⟨ha, _, hl⟩ := nam_all hn
  rw [lnH_parts, okS_word (h.1 ++ [58]) 0 0 true _ (fun c hc => ?_) (Or.inr rfl)]
  · unfold bdy
    simp only [Nat.zero_add, List.length_append, List.length_cons, List.length_nil]
    exact okS_fil _ _ _ _ (wds_wd _) (by omega) (Or.inl (by omega))
  · rcases List.mem_append.1 hc with hc | hc
    · exact isNm_vis (ha c hc)
    · simp at hc; subst hc; decide
theorem lnH_two (h : Hdr) : 2 ≤ (lnH h).length := by
  have h1 : ∀ (ws : List B) (k : Nat), 1 ≤ (fil k ws).length := fun ws k => by
    cases ws with
    | nil => simp [fil]
    | cons w ws => rw [fil]; split <;> simp
  have := h1 (wds h.2) (h.1.length + 1)
  unfold lnH bdy
  simp; omega
section
variable {E : B} {i k j : Nat} {f : Bool} {c : UInt8}
theorem dropS (hc : E[i]? = some c) : E.drop i = c :: E.drop (i + 1) := by
  obtain ⟨hi, rfl⟩ := List.getElem?_eq_some_iff.1 hc
  exact List.drop_eq_getElem_cons hi
theorem okS_13 (h : okS k j f (E.drop i) = true) (hc : E[i]? = some c) (h13 : c.toNat = 13) : (∃ d, E[i + 1]? = some d ∧ d.toNat = 10) ∧ ¬ (76 < k ∧ 1 < j) ∧ okS k j f (E.drop (i + 1)) = true := by
  rw [dropS hc, okS, if_pos h13, Bool.and_eq_true, Bool.and_eq_true, beq_iff_eq, Option.map_eq_some_iff] at h
  obtain ⟨⟨d, hd, h10⟩, hb, hr⟩ := h
  rw [List.head?_drop] at hd
  exact ⟨⟨d, hd, h10⟩, (by rintro ⟨q1, q2⟩; rw [decide_eq_true q1, decide_eq_true q2] at hb; cases hb), hr⟩
theorem okS_10 (h : okS k j f (E.drop i) = true) (hc : E[i]? = some c) (h10 : c.toNat = 10) : okS 0 0 false (E.drop (i + 1)) = true := by
  rwa [dropS hc, okS, if_neg (by omega), if_pos h10] at h
theorem okS_b (h : okS k j f (E.drop i) = true) (hc : E[i]? = some c) (h13 : ¬ c.toNat = 13) (h10 : ¬ c.toNat = 10) : (32 ≤ c.toNat ∧ c.toNat ≤ 126) ∧ (c.toNat = 32 ∨ 0 < k ∨ f = true) ∧ okS (k + 1) (if c.toNat = 32 then j + 1 else j) f (E.drop (i + 1)) = true := by
  rw [dropS hc, okS, if_neg h13, if_neg h10, Bool.and_eq_true, Bool.and_eq_true] at h
  obtain ⟨h1, h2, h3⟩ := h
  refine ⟨by unfold rng at h1; simpa using h1, ?_, h3⟩
  by_cases q : c.toNat = 32
  · exact Or.inl q
  · refine Or.inr ?_
    rw [decide_eq_true q] at h2
    cases f with
    | true => exact Or.inr rfl
    | false => exact Or.inl (Nat.pos_of_ne_zero (by simpa using h2))
theorem okS_z (h : okS k j f (E.drop i) = true) (hl : E.length ≤ i) : k = 0 := by
  rw [List.drop_eq_nil_of_le hl, okS] at h
  simpa using h
end
set_option maxRecDepth 100000 in
set_option maxHeartbeats 8000000 in
theorem lines14_walk (h : Hdr) (w : World) (hn : h.1.length ≤ maxLen) (ht : h.2.length ≤ maxLen) (hE : Env w) :
    Calls Tryd.prog 6 #[hV h] w fun e w' => e = .returned (.bool true) ∧ Kept w w' := by
  have HE := Lib.hid hE
  clear hE
  have HNT := Lib.hid (And.intro hn ht)
  obtain ⟨n, t⟩ := h
  clear hn ht
  have k0 := (Kept.refl w).alloc (.cells #[sV n, sV t] 23)
  have c0 := (Kept.refl (w.alloc (.cells #[sV n, sV t] 23))).new 0 (v := sV n) rfl
  have c1 := (Kept.refl (w.alloc (.cells #[sV n, sV t] 23))).new 1 (v := sV t) rfl
  go_enter Tryd.func6, Tryd.ntmps6
  go_upto_region 1 with (fail)
  generalize w.alloc (.cells #[sV n, sV t] 23) = x0 at *
  go_wp2_with fail
  refine (awake14_any _ (HE.out.kept k0)).mono ?_
  rintro e x1 ⟨rfl, k1⟩
  have d0 := k1.yes c0
  have d1 := k1.yes c1
  have ka := (Kept.refl x1).alloc (.cells #[sV n, sV t] 23)
  have HF := Lib.hid (few_any _ [(n, t)] 1 _ (hrd_one x1 (n, t)) (by unfold maxLen; simp only [List.length_cons, List.length_nil]; omega) (fun x hx => by simp at hx; subst hx; exact HNT.out))
  have K2 := Lib.hid ((k0.trans k1).trans ka)
  have e0 := ka.yes d0
  have e1 := ka.yes d1
  clear k0 k1 ka c0 c1
  go_upto_region 2 with (fail)
  go_wp2_with fail
  refine HF.out.mono ?_
  rintro e x2 ⟨rfl, rfl⟩
  clear HF d0 d1
  have HB := Lib.hid (fun hf => (few_bd (l := [(n, t)]) (most := 1) hf).2 (n, t) (by simp))
  generalize fewB [(n, t)] 1 = fb at *
  generalize x1.alloc (.cells #[sV n, sV t] 23) = x3 at *
  go_wp2_with fail
  refine (line_any0 (n, t) _ (HE.out.kept K2.out) HNT.out.1 HNT.out.2).mono ?_
  rintro e x4 ⟨xv, rfl, hO, k4⟩
  have K4 := Lib.hid (K2.out.trans k4)
  have O4 := Lib.hid hO
  obtain ⟨xa, xc, hxv⟩ := hO.slice
  clear k4 e0 e1 K2 hO
  cases fb with
  | false =>
    go_wp2
    go_ret
    exact ⟨rfl, K4.out⟩
  | true =>
  cases hok : okH (n, t) with
  | false =>
    rw [lE_no hok]
    go_wp2
    go_ret
    exact ⟨rfl, K4.out⟩
  | true =>
    rw [lE_ok hok]
    obtain ⟨hnl, htl⟩ := HB.out rfl
    have HL := Lib.hid (okS_line hok)
    have hz2 := lnH_two (n, t)
    have hzl : (lnH (n, t)).length ≤ 20000 := by have := lnH_len (n, t); simp only at this hnl htl; omega
    have R4 := O4.out.rd
    rw [line_lnH hok, Option.getD_some] at R4 hxv
    replace R4 := Lib.hid R4
    clear hok O4 HB hnl htl HNT
    subst hxv
    generalize lnH (n, t) = E at *
    go_wp2_with fail
    go_loopw [7, 8, 9, 10] (fun vl vb vf vi wr => ∃ (i k j : Nat) (f : Bool), i ≤ E.length ∧ k ≤ i ∧ j ≤ i ∧ vl = .int .i64 k ∧ vb = .int .i64 j ∧ vf = .bool f ∧ vi = .int .i64 i ∧ Hid (okS k j f (E.drop i) = true) ∧ Hid (wr = x4)) (fun _ _ _ vi _ => E.length - (intOf vi).toNat)
    case atStart => exact ⟨0, 0, 0, true, Nat.zero_le _, Nat.le_refl _, Nat.le_refl _, rfl, rfl, rfl, rfl, HL, Lib.hid rfl⟩
    case round =>
      clear HL
      obtain ⟨i, k, j, f, hi, hk, hj, rfl, rfl, rfl, rfl, hL, hW⟩ := hrel
      obtain rfl := hW.out
      clear hW
      by_cases hlt : i < E.length
      · have hltI : (i : Int) < E.length := by omega
        obtain ⟨x, hx⟩ : ∃ x, E[i]? = some x := ⟨_, List.getElem?_eq_getElem hlt⟩
        obtain ⟨g2, o, cp, hv', hcp, cell⟩ := R4.out.at hx
        cases hv'
        by_cases h13 : (x.toNat : Int) = 13
        · obtain ⟨⟨d, hd, h10⟩, hb, hr⟩ := okS_13 hL.out hx (by omega)
          have HR := Lib.hid hr
          have hi1 : (i : Int) + 1 < E.length := by have := (List.getElem?_eq_some_iff.1 hd).1; omega
          obtain ⟨g3, o3, cp3, hv3, _, c1⟩ := R4.out.at hd
          cases hv3
          rw [h13] at cell
          rw [show (d.toNat : Int) = 10 by omega] at c1
          by_cases h76 : 76 < (k : Int)
          · have hj1 : ¬ 1 < (j : Int) := by omega
            clear hx hd hb hr hL h13 h10
            go_wp2_with fail
            go_roundw
            case rel => exact ⟨i + 1, k, j, f, by omega, by omega, by omega, rfl, rfl, rfl, by go_num, HR, Lib.hid trivial⟩
            case measure => simp [intOf]; omega
          · clear hx hd hb hr hL h13 h10
            go_wp2_with fail
            go_roundw
            case rel => exact ⟨i + 1, k, j, f, by omega, by omega, by omega, rfl, rfl, rfl, by go_num, HR, Lib.hid trivial⟩
            case measure => simp [intOf]; omega
        by_cases h10 : (x.toNat : Int) = 10
        · have HR := Lib.hid (okS_10 hL.out hx (by omega))
          rw [h10] at cell
          clear hx hL h13 h10
          go_wp2_with fail
          go_roundw
          case rel => exact ⟨i + 1, 0, 0, false, by omega, by omega, by omega, rfl, rfl, rfl, by go_num, HR, Lib.hid trivial⟩
          case measure => simp [intOf]; omega
        · obtain ⟨hc, hd, hr⟩ := okS_b hL.out hx (by omega) (by omega)
          have b13 : ((x.toNat : Int) == 13) = false := beq_eq_false_iff_ne.2 h13
          have b10 : ((x.toNat : Int) == 10) = false := beq_eq_false_iff_ne.2 h10
          have l32 : ¬ (x.toNat : Int) < 32 := by omega
          have l126 : ¬ 126 < (x.toNat : Int) := by omega
          by_cases h32 : (x.toNat : Int) = 32
          · rw [if_pos (by omega)] at hr
            have HR := Lib.hid hr
            rw [h32] at cell
            clear hx hL h13 h10 hc hd hr b13 b10 l32 l126
            by_cases hk0 : k = 0
            · subst hk0
              cases f with
              | true =>
                go_wp2_with fail
                go_roundw
                case rel => exact ⟨i + 1, 1, j + 1, true, by omega, by omega, by omega, by go_num, by go_num, rfl, by go_num, HR, Lib.hid trivial⟩
                case measure => simp [intOf]; omega
              | false =>
                go_wp2_with fail
                go_roundw
                case rel => exact ⟨i + 1, 1, j + 1, false, by omega, by omega, by omega, by go_num, by go_num, rfl, by go_num, HR, Lib.hid trivial⟩
                case measure => simp [intOf]; omega
            · have bk : ((k : Int) == 0) = false := beq_eq_false_iff_ne.2 (by omega)
              go_wp2_with fail
              go_roundw
              case rel => exact ⟨i + 1, k + 1, j + 1, f, by omega, by omega, by omega, by go_num, by go_num, rfl, by go_num, HR, Lib.hid trivial⟩
              case measure => simp [intOf]; omega
          · rw [if_neg (by omega)] at hr
            have HR := Lib.hid hr
            have b32 : ((x.toNat : Int) == 32) = false := beq_eq_false_iff_ne.2 h32
            by_cases hk0 : k = 0
            · subst hk0
              obtain rfl : f = true := by
                rcases hd with h | h | h
                · omega
                · omega
                · exact h
              clear hx hL h13 h10 hc hd hr h32
              go_wp2_with fail
              go_roundw
              case rel => exact ⟨i + 1, 1, j, true, by omega, by omega, by omega, by go_num, rfl, rfl, by go_num, HR, Lib.hid trivial⟩
              case measure => simp [intOf]; omega
            · have bk : ((k : Int) == 0) = false := beq_eq_false_iff_ne.2 (by omega)
              clear hx hL h13 h10 hc hd hr h32
              go_wp2_with fail
              go_roundw
              case rel => exact ⟨i + 1, k + 1, j, f, by omega, by omega, by omega, by go_num, rfl, rfl, by go_num, HR, Lib.hid trivial⟩
              case measure => simp [intOf]; omega
      · have hltI : ¬ (i : Int) < E.length := by omega
        obtain rfl := okS_z hL.out (by omega)
        have h2I : ¬ (E.length : Int) < 2 := by omega
        have h2J : (2 : Int) ≤ E.length := by omega
        clear hL
        go_wp2_with fail
        go_ret
        exact ⟨rfl, K4.out⟩
end Go.Proofs.YtdhhlcgmkkpldaaDoor.Hd
