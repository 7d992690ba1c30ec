/- Contracts of the document's answers for layer 2: a text of the right signs. -/
import Derived.Test.YtlmjopembcifiaaDoorStRefP
namespace Go.Proofs.YtlmjopembcifiaaDoor
open Go.ChangeShapes Go.WideShapes Go.ChangeAt Go.RowKit
open Civ
theorem zOut_bd {l : List UInt8} {z : Int} (h : zOut l = some z) : -86400 < z ∧ z < 86400 := by
  unfold zOut at h
  split at h
  · rename_i z' hz
    cases h; exact rzone_bd hz
  · cases h
theorem sec_bd {y m d h i s : Int} (k : okP y m d ∧ tmB h i s = true) : -62135596800 ≤ sec y m d h i s ∧ sec y m d h i s ≤ 253402300799 := by
  obtain ⟨a1, a2, a3, a4, a5, a6⟩ := tm_bd k.2
  obtain ⟨o1, o2⟩ := ord_bd k.1
  unfold sec; omega
theorem rfrac_no' (b : UInt8) (r : List UInt8) (h : b ≠ 46) : rfrac (b :: r) = some (b :: r) := by rw [rfrac, if_neg h]
theorem drop_cons {l : List UInt8} {k : Nat} (h : k < l.length) : ∃ c, l.drop k = c :: l.drop (k + 1) := ⟨l[k], List.drop_eq_getElem_cons h⟩
theorem ext_drop (l : List UInt8) (n : Nat) : (ByteArray.mk l.toArray).extract n l.length = ⟨(l.drop n).toArray⟩ := by
  rw [extract_mk, List.take_of_length_le (by rw [List.length_drop]; exact Nat.le_refl _)]
theorem u8_ne {c : UInt8} {k : Nat} (hk : k < 256) (h : c ≠ UInt8.ofNat k) : ((c.toNat : Int) == (k : Int)) = false := by
  simpa using fun hh => h ((u8_eq c k hk).1 hh)
theorem sg_none {those : List UInt8} {c : UInt8} {r : List UInt8} (h : those.contains c = false) : ¬ (rsign those (c :: r)).isSome = true := by
  rw [rsign_cons, if_neg (by rw [h]; simp)]; simp
set_option maxHeartbeats 4000000 in
theorem rparse_main (l : List UInt8) (hl : l.length ≤ 100) (h20 : 20 ≤ l.length) (w : World) (b a : UInt8) (hb : b = 84 ∨ b = 116) (hs : Signs l)
    (x4 : ∀ hh, (ByteArray.mk l.toArray)[4]'hh = 45) (x7 : ∀ hh, (ByteArray.mk l.toArray)[7]'hh = 45) (x10 : ∀ hh, (ByteArray.mk l.toArray)[10]'hh = b) (x13 : ∀ hh, (ByteArray.mk l.toArray)[13]'hh = 58) (x16 : ∀ hh, (ByteArray.mk l.toArray)[16]'hh = 58)
    (x19 : ∀ hh, (ByteArray.mk l.toArray)[19]'hh = a) (ed : l.drop 19 = a :: l.drop 20) :
    Calls Tryd.prog 23 #[.string ⟨l.toArray⟩] w (ParsePost (rparse l) w) := by
  have q0 := rnumber_any l 0 4 w hl (by omega) (by omega) (by omega)
  have q1 := rnumber_any l 5 2 w hl (by omega) (by omega) (by omega)
  have q2 := rnumber_any l 8 2 w hl (by omega) (by omega) (by omega)
  have q3 := rnumber_any l 11 2 w hl (by omega) (by omega) (by omega)
  have q4 := rnumber_any l 14 2 w hl (by omega) (by omega) (by omega)
  have q5 := rnumber_any l 17 2 w hl (by omega) (by omega) (by omega)
  have hn : N6 l = (nz (rnum 4 0 (l.drop 0)), nz (rnum 2 0 (l.drop 5)), nz (rnum 2 0 (l.drop 8)), nz (rnum 2 0 (l.drop 11)), nz (rnum 2 0 (l.drop 14)), nz (rnum 2 0 (l.drop 17))) := rfl
  generalize nz (rnum 4 0 (l.drop 0)) = n0 at *
  generalize nz (rnum 2 0 (l.drop 5)) = n1 at *
  generalize nz (rnum 2 0 (l.drop 8)) = n2 at *
  generalize nz (rnum 2 0 (l.drop 11)) = n3 at *
  generalize nz (rnum 2 0 (l.drop 14)) = n4 at *
  generalize nz (rnum 2 0 (l.drop 17)) = n5 at *
  have HN := Lib.hid hn; clear hn
  have Q0 := Lib.hid q0; clear q0
  have Q1 := Lib.hid q1; clear q1
  have Q2 := Lib.hid q2; clear q2
  have Q3 := Lib.hid q3; clear q3
  have Q4 := Lib.hid q4; clear q4
  have Q5 := Lib.hid q5; clear q5
  have HS := Lib.hid hs; clear hs
  have ED := Lib.hid ed; clear ed
  have hsl := ext_drop l
  have l1 : (20 : Int) ≤ (l.length : Int) := by omega
  have l2 : (l.length : Int) ≤ 100 := by omega
  have g0 := Kept.refl (w.alloc (.cells #[.int .i64 n0, .int .i64 n1, .int .i64 n2, .int .i64 n3, .int .i64 n4, .int .i64 n5] 23))
  have c0 := g0.new 0 rfl
  have c1 := g0.new 1 rfl
  have c2 := g0.new 2 rfl
  have c3 := g0.new 3 rfl
  have c4 := g0.new 4 rfl
  have c5 := g0.new 5 rfl
  clear g0
  rcases hb with rfl | rfl
  · by_cases ha : a = 46
    · subst ha
      go_enter Tryd.func23, Tryd.ntmps23
      go_wp2_with fail
      refine Q0.out.mono ?_
      rintro e w1 ⟨rfl, rfl⟩
      go_wp2_with fail
      refine Q1.out.mono ?_
      rintro e w1 ⟨rfl, rfl⟩
      go_wp2_with fail
      refine Q2.out.mono ?_
      rintro e w1 ⟨rfl, rfl⟩
      go_wp2_with fail
      refine Q3.out.mono ?_
      rintro e w1 ⟨rfl, rfl⟩
      go_wp2_with fail
      refine Q4.out.mono ?_
      rintro e w1 ⟨rfl, rfl⟩
      go_wp2_with fail
      refine Q5.out.mono ?_
      rintro e w1 ⟨rfl, rfl⟩
      go_wp2_with fail
      go_loop [5] (fun i => ∃ j : Nat, 20 + j ≤ l.length ∧ i = .int .i64 ((20 + j : Nat) : Int) ∧ (l.drop 20).dropWhile (digs.contains ·) = (l.drop (20 + j)).dropWhile (digs.contains ·) ∧ (j = 0 ∨ ∃ c t, l.drop 20 = c :: t ∧ digs.contains c = true)) (fun i => l.length - (intOf i).toNat)
      case atStart => exact ⟨0, by omega, rfl, rfl, Or.inl rfl⟩
      case round =>
        obtain ⟨j, hj, rfl, hdw, hj0⟩ := hrel
        have HDW := Lib.hid hdw; clear hdw
        have HJ := Lib.hid hj0; clear hj0
        by_cases hlt : 20 + j < l.length
        · obtain ⟨c, hd⟩ := drop_cons hlt
          have xg := fun hh => at_drop hd hh
          have i1 : (0 : Int) ≤ ((20 + j : Nat) : Int) := by omega
          have i2 : ((20 + j : Nat) : Int) < (l.length : Int) := by omega
          have i4 : (((20 + j : Nat) : Int)).toNat = 20 + j := by omega
          have HD := Lib.hid hd; clear hd
          by_cases k1 : c.toNat < 48
          · have nd : digs.contains c = false := not_digit (Or.inl k1)
            have ND := Lib.hid nd; clear nd
            have k1' : ¬ (48 : Int) ≤ (c.toNat : Int) := by omega
            have k1'' : decide ((48 : Int) ≤ (c.toNat : Int)) = false := decide_eq_false k1'
            clear k1
            by_cases j0 : j = 0
            · have HO := Lib.hid (show rparse l = none from parse_frac (by rw [ED.out, frac_eq]; subst j0; rw [show l.drop 20 = c :: l.drop 21 from HD.out]; show (if digs.contains c = true then _ else none) = none; rw [if_neg (by rw [ND.out]; simp)]))
              subst j0
              go_wp2
              go_ret2
              rw [HO.out]
              exact ⟨rfl, (Kept.refl w).alloc _⟩
            · have HP := Lib.hid (parse_eq HS.out (show rfrac (l.drop 19) = some (l.drop (20 + j)) by
                obtain ⟨c', t', e', d'⟩ := HJ.out.resolve_left j0
                rw [ED.out, frac_eq, e']
                show (if digs.contains c' = true then some ((c' :: t').dropWhile (digs.contains ·)) else none) = _
                rw [if_pos d', ← e', HDW.out]
                rw [HD.out, List.dropWhile_cons_of_neg (by rw [ND.out]; simp)]))
              have g20 : (((20 + j : Nat) : Int) == 20) = false := by simp; omega
              have gle : ((20 + j : Nat) : Int) ≤ (l.length : Int) := by omega
              have gnn : (0 : Int) ≤ ((20 + j : Nat) : Int) := by omega
              have gto : (((20 + j : Nat) : Int)).toNat = 20 + j := by omega
              generalize 20 + j = g at *
              go_wp2_with fail
              refine (rzone_any (l.drop g) _ (by rw [List.length_drop]; omega)).mono ?_
              intro e w1 hp
              rcases hz : zOut (l.drop g) with _ | z
              · rw [hz] at hp
                obtain ⟨rfl, rfl⟩ := hp
                have HO := Lib.hid (show rparse l = none by rw [HP.out, hz]; simp)
                by_cases hm : okP n0 n1 n2 ∧ tmB n3 n4 n5 = true
                · have HM := Lib.hid hm; clear hm
                  go_wp2_with fail
                  refine (rof_yes n0 n1 n2 n3 n4 n5 _ HM.out.1 HM.out.2).mono ?_
                  rintro e w2 ⟨rfl, k2⟩
                  go_wp2
                  go_ret2
                  rw [HO.out]
                  exact ⟨rfl, k2.back⟩
                · have HM := Lib.hid hm; clear hm
                  go_wp2_with fail
                  refine (rof_not n0 n1 n2 n3 n4 n5 _ HM.out).mono ?_
                  rintro e w2 ⟨rfl, k2⟩
                  go_wp2
                  go_ret2
                  rw [HO.out]
                  exact ⟨rfl, k2.back⟩
              · rw [hz] at hp
                obtain ⟨rfl, rfl⟩ := hp
                obtain ⟨z1, z2⟩ := zOut_bd hz
                by_cases hm : okP n0 n1 n2 ∧ tmB n3 n4 n5 = true
                · have HO := Lib.hid (show rparse l = some (sec n0 n1 n2 n3 n4 n5 - z) by rw [HP.out, hz, HN.out, if_pos (show may6 (n0, n1, n2, n3, n4, n5) = true from may_iff.2 hm)]; rfl)
                  obtain ⟨s1, s2⟩ := sec_bd hm
                  have HM := Lib.hid hm; clear hm
                  go_wp2_with fail
                  refine (rof_yes n0 n1 n2 n3 n4 n5 _ HM.out.1 HM.out.2).mono ?_
                  rintro e w2 ⟨rfl, k2⟩
                  go_wp2
                  go_ret2
                  rw [HO.out]
                  exact ⟨rfl, k2.back⟩
                · have HO := Lib.hid (show rparse l = none by rw [HP.out, HN.out, if_neg (show ¬ may6 (n0, n1, n2, n3, n4, n5) = true from fun h => hm (may_iff.1 h))])
                  have HM := Lib.hid hm; clear hm
                  go_wp2_with fail
                  refine (rof_not n0 n1 n2 n3 n4 n5 _ HM.out).mono ?_
                  rintro e w2 ⟨rfl, k2⟩
                  go_wp2
                  go_ret2
                  rw [HO.out]
                  exact ⟨rfl, k2.back⟩
          · by_cases k2 : 57 < c.toNat
            · have nd : digs.contains c = false := not_digit (Or.inr k2)
              have ND := Lib.hid nd; clear nd
              have k1' : (48 : Int) ≤ (c.toNat : Int) := by omega
              have k2' : ¬ (c.toNat : Int) ≤ 57 := by omega
              have k2'' : decide ((c.toNat : Int) ≤ 57) = false := decide_eq_false k2'
              clear k1 k2
              by_cases j0 : j = 0
              · have HO := Lib.hid (show rparse l = none from parse_frac (by rw [ED.out, frac_eq]; subst j0; rw [show l.drop 20 = c :: l.drop 21 from HD.out]; show (if digs.contains c = true then _ else none) = none; rw [if_neg (by rw [ND.out]; simp)]))
                subst j0
                go_wp2
                go_ret2
                rw [HO.out]
                exact ⟨rfl, (Kept.refl w).alloc _⟩
              · have HP := Lib.hid (parse_eq HS.out (show rfrac (l.drop 19) = some (l.drop (20 + j)) by
                  obtain ⟨c', t', e', d'⟩ := HJ.out.resolve_left j0
                  rw [ED.out, frac_eq, e']
                  show (if digs.contains c' = true then some ((c' :: t').dropWhile (digs.contains ·)) else none) = _
                  rw [if_pos d', ← e', HDW.out]
                  rw [HD.out, List.dropWhile_cons_of_neg (by rw [ND.out]; simp)]))
                have g20 : (((20 + j : Nat) : Int) == 20) = false := by simp; omega
                have gle : ((20 + j : Nat) : Int) ≤ (l.length : Int) := by omega
                have gnn : (0 : Int) ≤ ((20 + j : Nat) : Int) := by omega
                have gto : (((20 + j : Nat) : Int)).toNat = 20 + j := by omega
                generalize 20 + j = g at *
                go_wp2_with fail
                refine (rzone_any (l.drop g) _ (by rw [List.length_drop]; omega)).mono ?_
                intro e w1 hp
                rcases hz : zOut (l.drop g) with _ | z
                · rw [hz] at hp
                  obtain ⟨rfl, rfl⟩ := hp
                  have HO := Lib.hid (show rparse l = none by rw [HP.out, hz]; simp)
                  by_cases hm : okP n0 n1 n2 ∧ tmB n3 n4 n5 = true
                  · have HM := Lib.hid hm; clear hm
                    go_wp2_with fail
                    refine (rof_yes n0 n1 n2 n3 n4 n5 _ HM.out.1 HM.out.2).mono ?_
                    rintro e w2 ⟨rfl, k2⟩
                    go_wp2
                    go_ret2
                    rw [HO.out]
                    exact ⟨rfl, k2.back⟩
                  · have HM := Lib.hid hm; clear hm
                    go_wp2_with fail
                    refine (rof_not n0 n1 n2 n3 n4 n5 _ HM.out).mono ?_
                    rintro e w2 ⟨rfl, k2⟩
                    go_wp2
                    go_ret2
                    rw [HO.out]
                    exact ⟨rfl, k2.back⟩
                · rw [hz] at hp
                  obtain ⟨rfl, rfl⟩ := hp
                  obtain ⟨z1, z2⟩ := zOut_bd hz
                  by_cases hm : okP n0 n1 n2 ∧ tmB n3 n4 n5 = true
                  · have HO := Lib.hid (show rparse l = some (sec n0 n1 n2 n3 n4 n5 - z) by rw [HP.out, hz, HN.out, if_pos (show may6 (n0, n1, n2, n3, n4, n5) = true from may_iff.2 hm)]; rfl)
                    obtain ⟨s1, s2⟩ := sec_bd hm
                    have HM := Lib.hid hm; clear hm
                    go_wp2_with fail
                    refine (rof_yes n0 n1 n2 n3 n4 n5 _ HM.out.1 HM.out.2).mono ?_
                    rintro e w2 ⟨rfl, k2⟩
                    go_wp2
                    go_ret2
                    rw [HO.out]
                    exact ⟨rfl, k2.back⟩
                  · have HO := Lib.hid (show rparse l = none by rw [HP.out, HN.out, if_neg (show ¬ may6 (n0, n1, n2, n3, n4, n5) = true from fun h => hm (may_iff.1 h))])
                    have HM := Lib.hid hm; clear hm
                    go_wp2_with fail
                    refine (rof_not n0 n1 n2 n3 n4 n5 _ HM.out).mono ?_
                    rintro e w2 ⟨rfl, k2⟩
                    go_wp2
                    go_ret2
                    rw [HO.out]
                    exact ⟨rfl, k2.back⟩
            · have yd : digs.contains c = true := is_digit (by omega) (by omega)
              have YD := Lib.hid yd; clear yd
              have k1' : (48 : Int) ≤ (c.toNat : Int) := by omega
              have k2' : (c.toNat : Int) ≤ 57 := by omega
              clear k1 k2
              go_wp2
              go_round
              case rel =>
                refine ⟨j + 1, by omega, by go_num, ?_, Or.inr ?_⟩
                · rw [HDW.out, HD.out, List.dropWhile_cons_of_pos YD.out]; rfl
                · rcases HJ.out with rfl | h
                  · exact ⟨c, _, HD.out, YD.out⟩
                  · exact h
              case measure => simp [intOf]; omega
        · have hjl : l.length = 20 + j := by omega
          have nil : l.drop (20 + j) = [] := List.drop_of_length_le (by omega)
          have NIL := Lib.hid nil; clear nil
          have i2 : ¬ ((20 + j : Nat) : Int) < (l.length : Int) := by omega
          have i2' : decide (((20 + j : Nat) : Int) < (l.length : Int)) = false := decide_eq_false i2
          have HJL := Lib.hid hjl; clear hjl
          by_cases j0 : j = 0
          · have HO := Lib.hid (show rparse l = none from parse_frac (by rw [ED.out, frac_eq]; subst j0; rw [show l.drop 20 = [] from NIL.out]))
            subst j0
            go_wp2
            go_ret2
            rw [HO.out]
            exact ⟨rfl, (Kept.refl w).alloc _⟩
          · have HP := Lib.hid (parse_eq HS.out (show rfrac (l.drop 19) = some (l.drop (20 + j)) by
              obtain ⟨c', t', e', d'⟩ := HJ.out.resolve_left j0
              rw [ED.out, frac_eq, e']
              show (if digs.contains c' = true then some ((c' :: t').dropWhile (digs.contains ·)) else none) = _
              rw [if_pos d', ← e', HDW.out]
              rw [NIL.out]; rfl))
            have g20 : (((20 + j : Nat) : Int) == 20) = false := by simp; omega
            have gle : ((20 + j : Nat) : Int) ≤ (l.length : Int) := by omega
            have gnn : (0 : Int) ≤ ((20 + j : Nat) : Int) := by omega
            have gto : (((20 + j : Nat) : Int)).toNat = 20 + j := by omega
            generalize 20 + j = g at *
            go_wp2_with fail
            refine (rzone_any (l.drop g) _ (by rw [List.length_drop]; omega)).mono ?_
            intro e w1 hp
            rcases hz : zOut (l.drop g) with _ | z
            · rw [hz] at hp
              obtain ⟨rfl, rfl⟩ := hp
              have HO := Lib.hid (show rparse l = none by rw [HP.out, hz]; simp)
              by_cases hm : okP n0 n1 n2 ∧ tmB n3 n4 n5 = true
              · have HM := Lib.hid hm; clear hm
                go_wp2_with fail
                refine (rof_yes n0 n1 n2 n3 n4 n5 _ HM.out.1 HM.out.2).mono ?_
                rintro e w2 ⟨rfl, k2⟩
                go_wp2
                go_ret2
                rw [HO.out]
                exact ⟨rfl, k2.back⟩
              · have HM := Lib.hid hm; clear hm
                go_wp2_with fail
                refine (rof_not n0 n1 n2 n3 n4 n5 _ HM.out).mono ?_
                rintro e w2 ⟨rfl, k2⟩
                go_wp2
                go_ret2
                rw [HO.out]
                exact ⟨rfl, k2.back⟩
            · rw [hz] at hp
              obtain ⟨rfl, rfl⟩ := hp
              obtain ⟨z1, z2⟩ := zOut_bd hz
              by_cases hm : okP n0 n1 n2 ∧ tmB n3 n4 n5 = true
              · have HO := Lib.hid (show rparse l = some (sec n0 n1 n2 n3 n4 n5 - z) by rw [HP.out, hz, HN.out, if_pos (show may6 (n0, n1, n2, n3, n4, n5) = true from may_iff.2 hm)]; rfl)
                obtain ⟨s1, s2⟩ := sec_bd hm
                have HM := Lib.hid hm; clear hm
                go_wp2_with fail
                refine (rof_yes n0 n1 n2 n3 n4 n5 _ HM.out.1 HM.out.2).mono ?_
                rintro e w2 ⟨rfl, k2⟩
                go_wp2
                go_ret2
                rw [HO.out]
                exact ⟨rfl, k2.back⟩
              · have HO := Lib.hid (show rparse l = none by rw [HP.out, HN.out, if_neg (show ¬ may6 (n0, n1, n2, n3, n4, n5) = true from fun h => hm (may_iff.1 h))])
                have HM := Lib.hid hm; clear hm
                go_wp2_with fail
                refine (rof_not n0 n1 n2 n3 n4 n5 _ HM.out).mono ?_
                rintro e w2 ⟨rfl, k2⟩
                go_wp2
                go_ret2
                rw [HO.out]
                exact ⟨rfl, k2.back⟩
    · have HP := Lib.hid (parse_eq HS.out (show rfrac (l.drop 19) = some (l.drop 19) by rw [ED.out]; exact rfrac_no' a _ ha))
      have ha' : ((a.toNat : Int) == 46) = false := u8_ne (k := 46) (by omega) ha
      clear ha
      go_enter Tryd.func23, Tryd.ntmps23
      go_wp2_with fail
      refine Q0.out.mono ?_
      rintro e w1 ⟨rfl, rfl⟩
      go_wp2_with fail
      refine Q1.out.mono ?_
      rintro e w1 ⟨rfl, rfl⟩
      go_wp2_with fail
      refine Q2.out.mono ?_
      rintro e w1 ⟨rfl, rfl⟩
      go_wp2_with fail
      refine Q3.out.mono ?_
      rintro e w1 ⟨rfl, rfl⟩
      go_wp2_with fail
      refine Q4.out.mono ?_
      rintro e w1 ⟨rfl, rfl⟩
      go_wp2_with fail
      refine Q5.out.mono ?_
      rintro e w1 ⟨rfl, rfl⟩
      go_wp2_with fail
      refine (rzone_any (l.drop 19) _ (by rw [List.length_drop]; omega)).mono ?_
      intro e w1 hp
      rcases hz : zOut (l.drop 19) with _ | z
      · rw [hz] at hp
        obtain ⟨rfl, rfl⟩ := hp
        have HO := Lib.hid (show rparse l = none by rw [HP.out, hz]; simp)
        by_cases hm : okP n0 n1 n2 ∧ tmB n3 n4 n5 = true
        · have HM := Lib.hid hm; clear hm
          go_wp2_with fail
          refine (rof_yes n0 n1 n2 n3 n4 n5 _ HM.out.1 HM.out.2).mono ?_
          rintro e w2 ⟨rfl, k2⟩
          go_wp2
          go_ret2
          rw [HO.out]
          exact ⟨rfl, k2.back⟩
        · have HM := Lib.hid hm; clear hm
          go_wp2_with fail
          refine (rof_not n0 n1 n2 n3 n4 n5 _ HM.out).mono ?_
          rintro e w2 ⟨rfl, k2⟩
          go_wp2
          go_ret2
          rw [HO.out]
          exact ⟨rfl, k2.back⟩
      · rw [hz] at hp
        obtain ⟨rfl, rfl⟩ := hp
        obtain ⟨z1, z2⟩ := zOut_bd hz
        by_cases hm : okP n0 n1 n2 ∧ tmB n3 n4 n5 = true
        · have HO := Lib.hid (show rparse l = some (sec n0 n1 n2 n3 n4 n5 - z) by rw [HP.out, hz, HN.out, if_pos (show may6 (n0, n1, n2, n3, n4, n5) = true from may_iff.2 hm)]; rfl)
          obtain ⟨s1, s2⟩ := sec_bd hm
          have HM := Lib.hid hm; clear hm
          go_wp2_with fail
          refine (rof_yes n0 n1 n2 n3 n4 n5 _ HM.out.1 HM.out.2).mono ?_
          rintro e w2 ⟨rfl, k2⟩
          go_wp2
          go_ret2
          rw [HO.out]
          exact ⟨rfl, k2.back⟩
        · have HO := Lib.hid (show rparse l = none by rw [HP.out, HN.out, if_neg (show ¬ may6 (n0, n1, n2, n3, n4, n5) = true from fun h => hm (may_iff.1 h))])
          have HM := Lib.hid hm; clear hm
          go_wp2_with fail
          refine (rof_not n0 n1 n2 n3 n4 n5 _ HM.out).mono ?_
          rintro e w2 ⟨rfl, k2⟩
          go_wp2
          go_ret2
          rw [HO.out]
          exact ⟨rfl, k2.back⟩
  · by_cases ha : a = 46
    · subst ha
      go_enter Tryd.func23, Tryd.ntmps23
      go_wp2_with fail
      refine Q0.out.mono ?_
      rintro e w1 ⟨rfl, rfl⟩
      go_wp2_with fail
      refine Q1.out.mono ?_
      rintro e w1 ⟨rfl, rfl⟩
      go_wp2_with fail
      refine Q2.out.mono ?_
      rintro e w1 ⟨rfl, rfl⟩
      go_wp2_with fail
      refine Q3.out.mono ?_
      rintro e w1 ⟨rfl, rfl⟩
      go_wp2_with fail
      refine Q4.out.mono ?_
      rintro e w1 ⟨rfl, rfl⟩
      go_wp2_with fail
      refine Q5.out.mono ?_
      rintro e w1 ⟨rfl, rfl⟩
      go_wp2_with fail
      go_loop [5] (fun i => ∃ j : Nat, 20 + j ≤ l.length ∧ i = .int .i64 ((20 + j : Nat) : Int) ∧ (l.drop 20).dropWhile (digs.contains ·) = (l.drop (20 + j)).dropWhile (digs.contains ·) ∧ (j = 0 ∨ ∃ c t, l.drop 20 = c :: t ∧ digs.contains c = true)) (fun i => l.length - (intOf i).toNat)
      case atStart => exact ⟨0, by omega, rfl, rfl, Or.inl rfl⟩
      case round =>
        obtain ⟨j, hj, rfl, hdw, hj0⟩ := hrel
        have HDW := Lib.hid hdw; clear hdw
        have HJ := Lib.hid hj0; clear hj0
        by_cases hlt : 20 + j < l.length
        · obtain ⟨c, hd⟩ := drop_cons hlt
          have xg := fun hh => at_drop hd hh
          have i1 : (0 : Int) ≤ ((20 + j : Nat) : Int) := by omega
          have i2 : ((20 + j : Nat) : Int) < (l.length : Int) := by omega
          have i4 : (((20 + j : Nat) : Int)).toNat = 20 + j := by omega
          have HD := Lib.hid hd; clear hd
          by_cases k1 : c.toNat < 48
          · have nd : digs.contains c = false := not_digit (Or.inl k1)
            have ND := Lib.hid nd; clear nd
            have k1' : ¬ (48 : Int) ≤ (c.toNat : Int) := by omega
            have k1'' : decide ((48 : Int) ≤ (c.toNat : Int)) = false := decide_eq_false k1'
            clear k1
            by_cases j0 : j = 0
            · have HO := Lib.hid (show rparse l = none from parse_frac (by rw [ED.out, frac_eq]; subst j0; rw [show l.drop 20 = c :: l.drop 21 from HD.out]; show (if digs.contains c = true then _ else none) = none; rw [if_neg (by rw [ND.out]; simp)]))
              subst j0
              go_wp2
              go_ret2
              rw [HO.out]
              exact ⟨rfl, (Kept.refl w).alloc _⟩
            · have HP := Lib.hid (parse_eq HS.out (show rfrac (l.drop 19) = some (l.drop (20 + j)) by
                obtain ⟨c', t', e', d'⟩ := HJ.out.resolve_left j0
                rw [ED.out, frac_eq, e']
                show (if digs.contains c' = true then some ((c' :: t').dropWhile (digs.contains ·)) else none) = _
                rw [if_pos d', ← e', HDW.out]
                rw [HD.out, List.dropWhile_cons_of_neg (by rw [ND.out]; simp)]))
              have g20 : (((20 + j : Nat) : Int) == 20) = false := by simp; omega
              have gle : ((20 + j : Nat) : Int) ≤ (l.length : Int) := by omega
              have gnn : (0 : Int) ≤ ((20 + j : Nat) : Int) := by omega
              have gto : (((20 + j : Nat) : Int)).toNat = 20 + j := by omega
              generalize 20 + j = g at *
              go_wp2_with fail
              refine (rzone_any (l.drop g) _ (by rw [List.length_drop]; omega)).mono ?_
              intro e w1 hp
              rcases hz : zOut (l.drop g) with _ | z
              · rw [hz] at hp
                obtain ⟨rfl, rfl⟩ := hp
                have HO := Lib.hid (show rparse l = none by rw [HP.out, hz]; simp)
                by_cases hm : okP n0 n1 n2 ∧ tmB n3 n4 n5 = true
                · have HM := Lib.hid hm; clear hm
                  go_wp2_with fail
                  refine (rof_yes n0 n1 n2 n3 n4 n5 _ HM.out.1 HM.out.2).mono ?_
                  rintro e w2 ⟨rfl, k2⟩
                  go_wp2
                  go_ret2
                  rw [HO.out]
                  exact ⟨rfl, k2.back⟩
                · have HM := Lib.hid hm; clear hm
                  go_wp2_with fail
                  refine (rof_not n0 n1 n2 n3 n4 n5 _ HM.out).mono ?_
                  rintro e w2 ⟨rfl, k2⟩
                  go_wp2
                  go_ret2
                  rw [HO.out]
                  exact ⟨rfl, k2.back⟩
              · rw [hz] at hp
                obtain ⟨rfl, rfl⟩ := hp
                obtain ⟨z1, z2⟩ := zOut_bd hz
                by_cases hm : okP n0 n1 n2 ∧ tmB n3 n4 n5 = true
                · have HO := Lib.hid (show rparse l = some (sec n0 n1 n2 n3 n4 n5 - z) by rw [HP.out, hz, HN.out, if_pos (show may6 (n0, n1, n2, n3, n4, n5) = true from may_iff.2 hm)]; rfl)
                  obtain ⟨s1, s2⟩ := sec_bd hm
                  have HM := Lib.hid hm; clear hm
                  go_wp2_with fail
                  refine (rof_yes n0 n1 n2 n3 n4 n5 _ HM.out.1 HM.out.2).mono ?_
                  rintro e w2 ⟨rfl, k2⟩
                  go_wp2
                  go_ret2
                  rw [HO.out]
                  exact ⟨rfl, k2.back⟩
                · have HO := Lib.hid (show rparse l = none by rw [HP.out, HN.out, if_neg (show ¬ may6 (n0, n1, n2, n3, n4, n5) = true from fun h => hm (may_iff.1 h))])
                  have HM := Lib.hid hm; clear hm
                  go_wp2_with fail
                  refine (rof_not n0 n1 n2 n3 n4 n5 _ HM.out).mono ?_
                  rintro e w2 ⟨rfl, k2⟩
                  go_wp2
                  go_ret2
                  rw [HO.out]
                  exact ⟨rfl, k2.back⟩
          · by_cases k2 : 57 < c.toNat
            · have nd : digs.contains c = false := not_digit (Or.inr k2)
              have ND := Lib.hid nd; clear nd
              have k1' : (48 : Int) ≤ (c.toNat : Int) := by omega
              have k2' : ¬ (c.toNat : Int) ≤ 57 := by omega
              have k2'' : decide ((c.toNat : Int) ≤ 57) = false := decide_eq_false k2'
              clear k1 k2
              by_cases j0 : j = 0
              · have HO := Lib.hid (show rparse l = none from parse_frac (by rw [ED.out, frac_eq]; subst j0; rw [show l.drop 20 = c :: l.drop 21 from HD.out]; show (if digs.contains c = true then _ else none) = none; rw [if_neg (by rw [ND.out]; simp)]))
                subst j0
                go_wp2
                go_ret2
                rw [HO.out]
                exact ⟨rfl, (Kept.refl w).alloc _⟩
              · have HP := Lib.hid (parse_eq HS.out (show rfrac (l.drop 19) = some (l.drop (20 + j)) by
                  obtain ⟨c', t', e', d'⟩ := HJ.out.resolve_left j0
                  rw [ED.out, frac_eq, e']
                  show (if digs.contains c' = true then some ((c' :: t').dropWhile (digs.contains ·)) else none) = _
                  rw [if_pos d', ← e', HDW.out]
                  rw [HD.out, List.dropWhile_cons_of_neg (by rw [ND.out]; simp)]))
                have g20 : (((20 + j : Nat) : Int) == 20) = false := by simp; omega
                have gle : ((20 + j : Nat) : Int) ≤ (l.length : Int) := by omega
                have gnn : (0 : Int) ≤ ((20 + j : Nat) : Int) := by omega
                have gto : (((20 + j : Nat) : Int)).toNat = 20 + j := by omega
                generalize 20 + j = g at *
                go_wp2_with fail
                refine (rzone_any (l.drop g) _ (by rw [List.length_drop]; omega)).mono ?_
                intro e w1 hp
                rcases hz : zOut (l.drop g) with _ | z
                · rw [hz] at hp
                  obtain ⟨rfl, rfl⟩ := hp
                  have HO := Lib.hid (show rparse l = none by rw [HP.out, hz]; simp)
                  by_cases hm : okP n0 n1 n2 ∧ tmB n3 n4 n5 = true
                  · have HM := Lib.hid hm; clear hm
                    go_wp2_with fail
                    refine (rof_yes n0 n1 n2 n3 n4 n5 _ HM.out.1 HM.out.2).mono ?_
                    rintro e w2 ⟨rfl, k2⟩
                    go_wp2
                    go_ret2
                    rw [HO.out]
                    exact ⟨rfl, k2.back⟩
                  · have HM := Lib.hid hm; clear hm
                    go_wp2_with fail
                    refine (rof_not n0 n1 n2 n3 n4 n5 _ HM.out).mono ?_
                    rintro e w2 ⟨rfl, k2⟩
                    go_wp2
                    go_ret2
                    rw [HO.out]
                    exact ⟨rfl, k2.back⟩
                · rw [hz] at hp
                  obtain ⟨rfl, rfl⟩ := hp
                  obtain ⟨z1, z2⟩ := zOut_bd hz
                  by_cases hm : okP n0 n1 n2 ∧ tmB n3 n4 n5 = true
                  · have HO := Lib.hid (show rparse l = some (sec n0 n1 n2 n3 n4 n5 - z) by rw [HP.out, hz, HN.out, if_pos (show may6 (n0, n1, n2, n3, n4, n5) = true from may_iff.2 hm)]; rfl)
                    obtain ⟨s1, s2⟩ := sec_bd hm
                    have HM := Lib.hid hm; clear hm
                    go_wp2_with fail
                    refine (rof_yes n0 n1 n2 n3 n4 n5 _ HM.out.1 HM.out.2).mono ?_
                    rintro e w2 ⟨rfl, k2⟩
                    go_wp2
                    go_ret2
                    rw [HO.out]
                    exact ⟨rfl, k2.back⟩
                  · have HO := Lib.hid (show rparse l = none by rw [HP.out, HN.out, if_neg (show ¬ may6 (n0, n1, n2, n3, n4, n5) = true from fun h => hm (may_iff.1 h))])
                    have HM := Lib.hid hm; clear hm
                    go_wp2_with fail
                    refine (rof_not n0 n1 n2 n3 n4 n5 _ HM.out).mono ?_
                    rintro e w2 ⟨rfl, k2⟩
                    go_wp2
                    go_ret2
                    rw [HO.out]
                    exact ⟨rfl, k2.back⟩
            · have yd : digs.contains c = true := is_digit (by omega) (by omega)
              have YD := Lib.hid yd; clear yd
              have k1' : (48 : Int) ≤ (c.toNat : Int) := by omega
              have k2' : (c.toNat : Int) ≤ 57 := by omega
              clear k1 k2
              go_wp2
              go_round
              case rel =>
                refine ⟨j + 1, by omega, by go_num, ?_, Or.inr ?_⟩
                · rw [HDW.out, HD.out, List.dropWhile_cons_of_pos YD.out]; rfl
                · rcases HJ.out with rfl | h
                  · exact ⟨c, _, HD.out, YD.out⟩
                  · exact h
              case measure => simp [intOf]; omega
        · have hjl : l.length = 20 + j := by omega
          have nil : l.drop (20 + j) = [] := List.drop_of_length_le (by omega)
          have NIL := Lib.hid nil; clear nil
          have i2 : ¬ ((20 + j : Nat) : Int) < (l.length : Int) := by omega
          have i2' : decide (((20 + j : Nat) : Int) < (l.length : Int)) = false := decide_eq_false i2
          have HJL := Lib.hid hjl; clear hjl
          by_cases j0 : j = 0
          · have HO := Lib.hid (show rparse l = none from parse_frac (by rw [ED.out, frac_eq]; subst j0; rw [show l.drop 20 = [] from NIL.out]))
            subst j0
            go_wp2
            go_ret2
            rw [HO.out]
            exact ⟨rfl, (Kept.refl w).alloc _⟩
          · have HP := Lib.hid (parse_eq HS.out (show rfrac (l.drop 19) = some (l.drop (20 + j)) by
              obtain ⟨c', t', e', d'⟩ := HJ.out.resolve_left j0
              rw [ED.out, frac_eq, e']
              show (if digs.contains c' = true then some ((c' :: t').dropWhile (digs.contains ·)) else none) = _
              rw [if_pos d', ← e', HDW.out]
              rw [NIL.out]; rfl))
            have g20 : (((20 + j : Nat) : Int) == 20) = false := by simp; omega
            have gle : ((20 + j : Nat) : Int) ≤ (l.length : Int) := by omega
            have gnn : (0 : Int) ≤ ((20 + j : Nat) : Int) := by omega
            have gto : (((20 + j : Nat) : Int)).toNat = 20 + j := by omega
            generalize 20 + j = g at *
            go_wp2_with fail
            refine (rzone_any (l.drop g) _ (by rw [List.length_drop]; omega)).mono ?_
            intro e w1 hp
            rcases hz : zOut (l.drop g) with _ | z
            · rw [hz] at hp
              obtain ⟨rfl, rfl⟩ := hp
              have HO := Lib.hid (show rparse l = none by rw [HP.out, hz]; simp)
              by_cases hm : okP n0 n1 n2 ∧ tmB n3 n4 n5 = true
              · have HM := Lib.hid hm; clear hm
                go_wp2_with fail
                refine (rof_yes n0 n1 n2 n3 n4 n5 _ HM.out.1 HM.out.2).mono ?_
                rintro e w2 ⟨rfl, k2⟩
                go_wp2
                go_ret2
                rw [HO.out]
                exact ⟨rfl, k2.back⟩
              · have HM := Lib.hid hm; clear hm
                go_wp2_with fail
                refine (rof_not n0 n1 n2 n3 n4 n5 _ HM.out).mono ?_
                rintro e w2 ⟨rfl, k2⟩
                go_wp2
                go_ret2
                rw [HO.out]
                exact ⟨rfl, k2.back⟩
            · rw [hz] at hp
              obtain ⟨rfl, rfl⟩ := hp
              obtain ⟨z1, z2⟩ := zOut_bd hz
              by_cases hm : okP n0 n1 n2 ∧ tmB n3 n4 n5 = true
              · have HO := Lib.hid (show rparse l = some (sec n0 n1 n2 n3 n4 n5 - z) by rw [HP.out, hz, HN.out, if_pos (show may6 (n0, n1, n2, n3, n4, n5) = true from may_iff.2 hm)]; rfl)
                obtain ⟨s1, s2⟩ := sec_bd hm
                have HM := Lib.hid hm; clear hm
                go_wp2_with fail
                refine (rof_yes n0 n1 n2 n3 n4 n5 _ HM.out.1 HM.out.2).mono ?_
                rintro e w2 ⟨rfl, k2⟩
                go_wp2
                go_ret2
                rw [HO.out]
                exact ⟨rfl, k2.back⟩
              · have HO := Lib.hid (show rparse l = none by rw [HP.out, HN.out, if_neg (show ¬ may6 (n0, n1, n2, n3, n4, n5) = true from fun h => hm (may_iff.1 h))])
                have HM := Lib.hid hm; clear hm
                go_wp2_with fail
                refine (rof_not n0 n1 n2 n3 n4 n5 _ HM.out).mono ?_
                rintro e w2 ⟨rfl, k2⟩
                go_wp2
                go_ret2
                rw [HO.out]
                exact ⟨rfl, k2.back⟩
    · have HP := Lib.hid (parse_eq HS.out (show rfrac (l.drop 19) = some (l.drop 19) by rw [ED.out]; exact rfrac_no' a _ ha))
      have ha' : ((a.toNat : Int) == 46) = false := u8_ne (k := 46) (by omega) ha
      clear ha
      go_enter Tryd.func23, Tryd.ntmps23
      go_wp2_with fail
      refine Q0.out.mono ?_
      rintro e w1 ⟨rfl, rfl⟩
      go_wp2_with fail
      refine Q1.out.mono ?_
      rintro e w1 ⟨rfl, rfl⟩
      go_wp2_with fail
      refine Q2.out.mono ?_
      rintro e w1 ⟨rfl, rfl⟩
      go_wp2_with fail
      refine Q3.out.mono ?_
      rintro e w1 ⟨rfl, rfl⟩
      go_wp2_with fail
      refine Q4.out.mono ?_
      rintro e w1 ⟨rfl, rfl⟩
      go_wp2_with fail
      refine Q5.out.mono ?_
      rintro e w1 ⟨rfl, rfl⟩
      go_wp2_with fail
      refine (rzone_any (l.drop 19) _ (by rw [List.length_drop]; omega)).mono ?_
      intro e w1 hp
      rcases hz : zOut (l.drop 19) with _ | z
      · rw [hz] at hp
        obtain ⟨rfl, rfl⟩ := hp
        have HO := Lib.hid (show rparse l = none by rw [HP.out, hz]; simp)
        by_cases hm : okP n0 n1 n2 ∧ tmB n3 n4 n5 = true
        · have HM := Lib.hid hm; clear hm
          go_wp2_with fail
          refine (rof_yes n0 n1 n2 n3 n4 n5 _ HM.out.1 HM.out.2).mono ?_
          rintro e w2 ⟨rfl, k2⟩
          go_wp2
          go_ret2
          rw [HO.out]
          exact ⟨rfl, k2.back⟩
        · have HM := Lib.hid hm; clear hm
          go_wp2_with fail
          refine (rof_not n0 n1 n2 n3 n4 n5 _ HM.out).mono ?_
          rintro e w2 ⟨rfl, k2⟩
          go_wp2
          go_ret2
          rw [HO.out]
          exact ⟨rfl, k2.back⟩
      · rw [hz] at hp
        obtain ⟨rfl, rfl⟩ := hp
        obtain ⟨z1, z2⟩ := zOut_bd hz
        by_cases hm : okP n0 n1 n2 ∧ tmB n3 n4 n5 = true
        · have HO := Lib.hid (show rparse l = some (sec n0 n1 n2 n3 n4 n5 - z) by rw [HP.out, hz, HN.out, if_pos (show may6 (n0, n1, n2, n3, n4, n5) = true from may_iff.2 hm)]; rfl)
          obtain ⟨s1, s2⟩ := sec_bd hm
          have HM := Lib.hid hm; clear hm
          go_wp2_with fail
          refine (rof_yes n0 n1 n2 n3 n4 n5 _ HM.out.1 HM.out.2).mono ?_
          rintro e w2 ⟨rfl, k2⟩
          go_wp2
          go_ret2
          rw [HO.out]
          exact ⟨rfl, k2.back⟩
        · have HO := Lib.hid (show rparse l = none by rw [HP.out, HN.out, if_neg (show ¬ may6 (n0, n1, n2, n3, n4, n5) = true from fun h => hm (may_iff.1 h))])
          have HM := Lib.hid hm; clear hm
          go_wp2_with fail
          refine (rof_not n0 n1 n2 n3 n4 n5 _ HM.out).mono ?_
          rintro e w2 ⟨rfl, k2⟩
          go_wp2
          go_ret2
          rw [HO.out]
          exact ⟨rfl, k2.back⟩
end Go.Proofs.YtlmjopembcifiaaDoor
