import Derived.Test.YtjlpkgipdkjfhaaGreatDoorDgI
import Derived.Test.YtjlpkgipdkjfhaaGreatDoorPtRa
set_option linter.unusedSimpArgs false
set_option linter.unusedVariables false
namespace Go.Proofs.YtjlpkgipdkjfhaaGreatDoor.Bk.Dg
open Go.ChangeShapes Go.WideShapes Go.ChangeAt Go.RowKit Go.Shelf
open Go.Proofs.YtjlpkgipdkjfhaaGreatDoor.Dg
theorem rnum_any (n : Nat) (w : World) (hn : n ≤ 2000000000) : Calls Tryz.prog 32 #[iV n] w fun e w' => e = .returned (sV (Lib.decDigits n)) ∧ w = w' := Pt.rnumber_nat n w hn
set_option maxRecDepth 100000 in
set_option maxHeartbeats 2000000 in
theorem rid_any (sub no : Int) (w : World) : Calls Tryz.prog 18 #[iV sub, iV no] w fun e w' => e = .returned (.tuple #[sV (idR sub no).1, iV (idR sub no).2]) ∧ w = w' := by
  by_cases h : okI sub no = true
  · rw [idR_yes h]
    obtain ⟨h1, h2, h3, h4⟩ := okI_iff.1 h
    obtain ⟨m, rfl⟩ := Int.eq_ofNat_of_zero_le h1
    obtain ⟨n, rfl⟩ := Int.eq_ofNat_of_zero_le (show 0 ≤ no by omega)
    have g1 : ¬ (m : Int) < 0 := by omega
    have g2 : ¬ 8 ≤ (m : Int) := by omega
    have g3 : ¬ (n : Int) < 1 := by omega
    have g4 : ¬ 1073741824 < (n : Int) := by omega
    have l1 := dec_le10 9 n (by omega)
    have l2 := dec_le10 9 m (by omega)
    have HT := Lib.hid (show idT (n : Int).toNat (m : Int).toNat = 60 :: (Lib.decDigits n ++ 46 :: (Lib.decDigits m ++ clo)) from rfl)
    have H1 := Lib.hid (fun w => rnum_any n w (by omega))
    have H2 := Lib.hid (fun w => rnum_any m w (by omega))
    generalize idT (n : Int).toNat (m : Int).toNat = T at *
    generalize Lib.decDigits n = a at *
    generalize Lib.decDigits m = b at *
    clear h h1 h2 h3 h4
    go_enter Tryz.func18, Tryz.ntmps18
    go_wp2_with fail
    refine (H1.out _).mono ?_
    rintro e w1 ⟨rfl, rfl⟩
    go_wp2_with fail
    refine (H2.out _).mono ?_
    rintro e w2 ⟨rfl, rfl⟩
    go_wp2
    go_ret2
    refine ⟨?_, rfl⟩
    rw [HT.out]
    exact congrArg (fun s => Ending.returned (.tuple #[Value.string s, iV 0])) (id_bytes a b)
  · rw [idR_no h]
    have hn : ¬ (0 ≤ sub ∧ sub < 8 ∧ 1 ≤ no ∧ no ≤ 1073741824) := fun e => h (okI_iff.2 e)
    clear h
    by_cases g1 : sub < 0
    · go_enter Tryz.func18, Tryz.ntmps18
      go_wp2
      go_ret2
      exact ⟨rfl, rfl⟩
    · by_cases g2 : 8 ≤ sub
      · clear hn
        go_enter Tryz.func18, Tryz.ntmps18
        go_wp2
        go_ret2
        exact ⟨rfl, rfl⟩
      · by_cases g3 : no < 1
        · clear hn
          go_enter Tryz.func18, Tryz.ntmps18
          go_wp2
          go_ret2
          exact ⟨rfl, rfl⟩
        · have g4 : 1073741824 < no := by omega
          clear hn
          go_enter Tryz.func18, Tryz.ntmps18
          go_wp2
          go_ret2
          exact ⟨rfl, rfl⟩
theorem rdg_stop {s : B} {i m : Nat} (h : ∀ c, s[i]? = some c → ¬ (Pt.isD c = true ∧ m ≤ 1073741824)) : rdg m (s.drop i) = (m, 0) := by
  cases hd : s.drop i with
  | nil => rfl
  | cons c r =>
    have hc : s[i]? = some c := by
      have := congrArg (fun l => l[0]?) hd
      simpa [List.getElem?_drop] using this
    rw [rdg, if_neg (h c hc)]
theorem rdg_go {s : B} {i m : Nat} {c : UInt8} (hc : s[i]? = some c) (h1 : Pt.isD c = true) (h2 : m ≤ 1073741824) : rdg m (s.drop i) = ((rdg (10 * m + (c.toNat - 48)) (s.drop (i + 1))).1, (rdg (10 * m + (c.toNat - 48)) (s.drop (i + 1))).2 + 1) := by
  rw [Pt.drop_cons hc, rdg, if_pos ⟨h1, h2⟩]
theorem isD_of {c : UInt8} (h1 : 48 ≤ (c.toNat : Int)) (h2 : (c.toNat : Int) ≤ 57) : Pt.isD c = true := by
  unfold Pt.isD
  rw [decide_eq_true (show 48 ≤ c.toNat by omega), decide_eq_true (show c.toNat ≤ 57 by omega)]; rfl
set_option maxRecDepth 100000 in
set_option maxHeartbeats 4000000 in
theorem rdigits_any (s : B) (i0 : Nat) (w : World) (hl : s.length ≤ 1000000) (hi0 : i0 ≤ 2000000) :
    Calls Tryz.prog 43 #[sV s, iV i0] w fun e w' => e = .returned (.tuple #[iV (rdg 0 (s.drop i0)).1, iV ((i0 + (rdg 0 (s.drop i0)).2 : Nat) : Int)]) ∧ w = w' := by
  have hs : (ByteArray.mk s.toArray).size = s.length := List.size_toArray
  obtain ⟨R, hR⟩ : ∃ R, rdg 0 (s.drop i0) = R := ⟨_, rfl⟩
  have HR := Lib.hid hR
  rw [hR]
  obtain ⟨r1, r2⟩ := R
  clear hR
  go_enter Tryz.func43, Tryz.ntmps43
  go_wp2_with fail
  go_loopw [1, 6] (fun vi vm wr => ∃ k m : Nat, k ≤ s.length + 2000000 ∧ m ≤ 10737418249 ∧ vi = .int .i64 k ∧ vm = .int .i64 m ∧ wr = w ∧ Hid ((r1, i0 + r2) = ((rdg m (s.drop k)).1, k + (rdg m (s.drop k)).2))) (fun vi _ _ => s.length - (intOf vi).toNat)
  case atStart => exact ⟨i0, 0, by omega, by omega, rfl, rfl, rfl, Lib.hid (by rw [HR.out])⟩
  case round =>
    obtain ⟨k, m, hk, hm, rfl, rfl, rfl, hS⟩ := hrel
    by_cases hlt : k < s.length
    · have hltI : (k : Int) < s.length := by omega
      obtain ⟨c, hc⟩ : ∃ c, s[k]? = some c := ⟨_, List.getElem?_eq_getElem hlt⟩
      have hat := byte_at s k c hc
      have HC := Lib.hid hc
      clear hc
      by_cases g1 : 48 ≤ (c.toNat : Int)
      · by_cases g2 : (c.toNat : Int) ≤ 57
        · by_cases g3 : (m : Int) ≤ 1073741824
          · have HN := Lib.hid (show (r1, i0 + r2) = ((rdg (10 * m + (c.toNat - 48)) (s.drop (k + 1))).1, k + 1 + (rdg (10 * m + (c.toNat - 48)) (s.drop (k + 1))).2) by
              rw [hS.out, rdg_go HC.out (isD_of g1 g2) (by omega)]
              congr 1; simp only; omega)
            have hsub : IntKind.u8.wrap ((c.toNat : Int) - 48) = ((c.toNat - 48 : Nat) : Int) := by rw [IntKind.wrap_u8]; omega
            have hd9 : c.toNat - 48 ≤ 9 := by omega
            generalize c.toNat - 48 = d at *
            clear hS
            go_wp2
            go_roundw
            case rel => exact ⟨k + 1, 10 * m + d, by omega, by omega, by go_num, by go_num, by first | rfl | trivial, HN⟩
            case measure => simp [intOf]; omega
          · have HZ := Lib.hid (show (r1, i0 + r2) = (m, k) by
              rw [hS.out, rdg_stop (fun c' hc' e => by have := e.2; omega)]; rfl)
            clear hS
            go_wp2
            go_ret2
            have h1 : r1 = m := congrArg Prod.fst HZ.out
            have h2 : i0 + r2 = k := congrArg Prod.snd HZ.out
            exact ⟨by (first | rw [h1, show ((i0 : Int) + (r2 : Int)) = k by omega] | rw [h1, h2]) <;> rfl, rfl⟩
        · have HZ := Lib.hid (show (r1, i0 + r2) = (m, k) by
            rw [hS.out, rdg_stop (fun c' hc' e => by rw [HC.out] at hc'; cases hc'; have := (isD_lt e.1).2; omega)]; rfl)
          clear hS
          go_wp2
          go_ret2
          have h1 : r1 = m := congrArg Prod.fst HZ.out
          have h2 : i0 + r2 = k := congrArg Prod.snd HZ.out
          exact ⟨by (first | rw [h1, show ((i0 : Int) + (r2 : Int)) = k by omega] | rw [h1, h2]) <;> rfl, rfl⟩
      · have HZ := Lib.hid (show (r1, i0 + r2) = (m, k) by
          rw [hS.out, rdg_stop (fun c' hc' e => by rw [HC.out] at hc'; cases hc'; have := (isD_lt e.1).1; omega)]; rfl)
        clear hS
        go_wp2
        go_ret2
        have h1 : r1 = m := congrArg Prod.fst HZ.out
        have h2 : i0 + r2 = k := congrArg Prod.snd HZ.out
        exact ⟨by (first | rw [h1, show ((i0 : Int) + (r2 : Int)) = k by omega] | rw [h1, h2]) <;> rfl, rfl⟩
    · have hltI : ¬ (k : Int) < s.length := by omega
      have HZ := Lib.hid (show (r1, i0 + r2) = (m, k) by
        rw [hS.out, rdg_stop (fun c' hc' e => by have := (List.getElem?_eq_some_iff.1 hc').1; omega)]; rfl)
      clear hS
      go_wp2
      go_ret2
      have h1 : r1 = m := congrArg Prod.fst HZ.out
      have h2 : i0 + r2 = k := congrArg Prod.snd HZ.out
      exact ⟨by (first | rw [h1, show ((i0 : Int) + (r2 : Int)) = k by omega] | rw [h1, h2]) <;> rfl, rfl⟩
theorem rgue_id (no sub : Nat) (h1 : no ≤ 1073741824) (h2 : sub < 8) :
    rdg 0 ((idT no sub).drop 1) = (no, (Lib.decDigits no).length) ∧ (rdg 0 ((idT no sub).drop (1 + (Lib.decDigits no).length + 1))).1 = sub := by
  have e1 : (idT no sub).drop 1 = Lib.decDigits no ++ 46 :: (Lib.decDigits sub ++ clo) := rfl
  have e2 : (idT no sub).drop (1 + (Lib.decDigits no).length + 1) = Lib.decDigits sub ++ 64 :: clo.tail := by
    have : idT no sub = (60 :: (Lib.decDigits no ++ [46])) ++ (Lib.decDigits sub ++ clo) := by unfold idT; simp
    rw [this, List.drop_left' (by simp; omega)]; rfl
  rw [e1, e2, rdg_id h1 46 _ (by decide), rdg_id (by omega) 64 _ (by decide)]
  exact ⟨rfl, rfl⟩
set_option maxRecDepth 100000 in
set_option maxHeartbeats 2000000 in
theorem rparse_any (s : B) (w : World) (hl : s.length ≤ 1000000) : Calls Tryz.prog 20 #[sV s] w fun e w' => e = .returned (.tuple #[iV (psR s).1, iV (psR s).2.1, iV (psR s).2.2]) ∧ w = w' := by
  have hsz : (ByteArray.mk s.toArray).size = s.length := List.size_toArray
  have HP := Lib.hid (fun x y h => ps_of (s := s) (x := x) (y := y) h)
  have HD := Lib.hid (fun i (w : World) (h : i ≤ 2000000) => rdigits_any s i w hl h)
  have HG := Lib.hid (fun (no sub : Nat) (h1 : no ≤ 1073741824) (h2 : sub < 8) (e : s = idT no sub) => by
    have := rgue_id no sub h1 h2
    rw [← e] at this
    exact this)
  have hb1 := rdg_bd (s.drop 1) 0 (by omega)
  have hdl : (s.drop 1).length ≤ 1000000 := by rw [List.length_drop]; omega
  obtain ⟨⟨n1, k1⟩, h1⟩ : ∃ q, rdg 0 (s.drop 1) = q := ⟨_, rfl⟩
  obtain ⟨a, ha⟩ : ∃ a, 1 + k1 = a := ⟨_, rfl⟩
  have HD1 := Lib.hid (fun w => show Calls Tryz.prog 43 #[sV s, iV 1] w fun e w' => e = .returned (.tuple #[iV n1, iV a]) ∧ w = w' by
    have := HD.out 1 w (by omega)
    rw [h1, ha] at this
    exact this)
  rw [h1] at hb1
  simp only at hb1
  have hk : a + 1 ≤ 2000000 := by omega
  have HD2 := Lib.hid (fun w => show Calls Tryz.prog 43 #[sV s, iV ((a : Int) + 1)] w fun e w' => e = .returned (.tuple #[iV (rdg 0 (s.drop (a + 1))).1, iV ((a + 1 + (rdg 0 (s.drop (a + 1))).2 : Nat) : Int)]) ∧ w = w' by
    have := HD.out (a + 1) w hk
    rwa [show ((a + 1 : Nat) : Int) = (a : Int) + 1 by omega] at this)
  have hb2 := rdg_bd (s.drop (a + 1)) 0 (by omega)
  have HQ := Lib.hid (fun (no sub : Nat) (q1 : no ≤ 1073741824) (q2 : sub < 8) (e : s = idT no sub) => show (((rdg 0 (s.drop (a + 1))).1 : Nat) : Int) = sub ∧ (n1 : Int) = no by
    obtain ⟨g1, g2⟩ := HG.out no sub q1 q2 e
    rw [h1] at g1
    injection g1 with g1 g3
    rw [← g3, ha] at g2
    exact ⟨by rw [g2], by rw [g1]⟩)
  generalize rdg 0 (s.drop (a + 1)) = q at *
  obtain ⟨n2, k2⟩ := q
  simp only at HD2 HQ hb2
  have hp := HP.out n2 n1 HQ.out
  generalize psR s = p at *
  have HI := Lib.hid (fun w => rid_any (n2 : Int) (n1 : Int) w)
  clear HP HD HG HQ h1 hdl
  have hk1 : a ≤ 1999999 := by omega
  clear ha
  by_cases h : okI (n2 : Int) (n1 : Int) = true
  · rw [idR_yes h] at HI
    by_cases hs : idT (n1 : Int).toNat (n2 : Int).toNat = s
    · have HZ := Lib.hid (show p = ((n2 : Int), (n1 : Int), 0) by rw [hp, if_pos ⟨h, hs⟩])
      rw [hs] at HI
      clear hp h hs
      go_enter Tryz.func20, Tryz.ntmps20
      go_wp2_with fail
      refine (HD1.out _).mono ?_
      rintro e w1 ⟨rfl, rfl⟩
      go_wp2_with fail
      refine (HD2.out _).mono ?_
      rintro e w2 ⟨rfl, rfl⟩
      go_wp2_with fail
      refine (HI.out _).mono ?_
      rintro e w3 ⟨rfl, rfl⟩
      go_wp2
      go_ret3
      exact ⟨by rw [HZ.out]; rfl, rfl⟩
    · have HZ := Lib.hid (show p = (0, 0, 2) by rw [hp, if_neg (fun e => hs e.2)])
      have hs' : (idT (n1 : Int).toNat (n2 : Int).toNat == s) = false := beq_eq_false_iff_ne.2 hs
      clear hp h hs
      generalize idT (n1 : Int).toNat (n2 : Int).toNat = T at *
      go_enter Tryz.func20, Tryz.ntmps20
      go_wp2_with fail
      refine (HD1.out _).mono ?_
      rintro e w1 ⟨rfl, rfl⟩
      go_wp2_with fail
      refine (HD2.out _).mono ?_
      rintro e w2 ⟨rfl, rfl⟩
      go_wp2_with fail
      refine (HI.out _).mono ?_
      rintro e w3 ⟨rfl, rfl⟩
      go_wp2
      go_ret3
      exact ⟨by rw [HZ.out]; rfl, rfl⟩
  · rw [idR_no h] at HI
    have HZ := Lib.hid (show p = (0, 0, 2) by rw [hp, if_neg (fun e => h e.1)])
    clear hp h
    go_enter Tryz.func20, Tryz.ntmps20
    go_wp2_with fail
    refine (HD1.out _).mono ?_
    rintro e w1 ⟨rfl, rfl⟩
    go_wp2_with fail
    refine (HD2.out _).mono ?_
    rintro e w2 ⟨rfl, rfl⟩
    go_wp2_with fail
    refine (HI.out _).mono ?_
    rintro e w3 ⟨rfl, rfl⟩
    go_wp2
    go_ret3
    exact ⟨by rw [HZ.out]; rfl, rfl⟩
theorem adD_bad {s : B} {i : Nat} {c : UInt8} (hc : s[i]? = some c) (h : (c == 64 || nmC c) = false) : adD s = false := by
  unfold adD
  have : (s.all fun c => c == 64 || nmC c) = false := by
    rw [List.all_eq_false]
    exact ⟨c, List.mem_of_getElem? hc, by rw [h]; decide⟩
  rw [this, Bool.false_and]
theorem adD_end {s : B} {i : Nat} (hc : s[i]? = some 64) (h : i = 0 ∨ i + 1 = s.length) : adD s = false := by
  unfold adD
  rw [Bool.and_eq_false_iff]
  refine Or.inr (decide_eq_false ?_)
  rintro ⟨h1, h2, _⟩
  rcases h with rfl | h
  · exact h1 (by rw [List.head?_eq_getElem?]; exact hc)
  · exact h2 (by rw [List.getLast?_eq_getElem?, show s.length - 1 = i by omega]; exact hc)
theorem adD_fin {s : B} (h : ∀ (j : Nat) y, s[j]? = some y → (y == 64 || nmC y) = true ∧ (y = 64 → j ≠ 0 ∧ j + 1 ≠ s.length)) : adD s = decide (s.count 64 = 1 ∧ 3 ≤ s.length ∧ s.length ≤ 60) := by
  unfold adD
  have h1 : (s.all fun c => c == 64 || nmC c) = true := by
    rw [List.all_eq_true]
    intro c hc
    obtain ⟨i, hi⟩ := List.getElem?_of_mem hc
    exact (h i c hi).1
  have h2 : ¬ s.head? = some 64 := by
    rw [List.head?_eq_getElem?]
    exact fun e => ((h 0 64 e).2 rfl).1 rfl
  have h3 : ¬ s.getLast? = some 64 := by
    rw [List.getLast?_eq_getElem?]
    intro e
    have hl := (List.getElem?_eq_some_iff.1 e).1
    exact ((h _ 64 e).2 rfl).2 (by omega)
  rw [h1, Bool.true_and]
  exact decide_eq_decide.2 ⟨fun e => e.2.2, fun e => ⟨h2, h3, e⟩⟩
theorem count_next {s : B} {i : Nat} {c : UInt8} (h : s[i]? = some c) : (s.take (i + 1)).count 64 = (s.take i).count 64 + (if c = 64 then 1 else 0) := by
  rw [List.take_add_one, h, List.count_append]
  by_cases hc : c = 64
  · subst hc; rfl
  · rw [if_neg hc]; simp [hc]
theorem good_next {s : B} {i : Nat} {c : UInt8} (h : ∀ (j : Nat) y, j < i → s[j]? = some y → (y == 64 || nmC y) = true ∧ (y = 64 → j ≠ 0 ∧ j + 1 ≠ s.length)) (hc : s[i]? = some c) (h2 : (c == 64 || nmC c) = true ∧ (c = 64 → i ≠ 0 ∧ i + 1 ≠ s.length)) :
    ∀ (j : Nat) y, j < i + 1 → s[j]? = some y → (y == 64 || nmC y) = true ∧ (y = 64 → j ≠ 0 ∧ j + 1 ≠ s.length) := by
  intro j y hj hy
  by_cases e : j = i
  · subst e; rw [hc] at hy; cases hy; exact h2
  · exact h j y (by omega) hy
theorem is64 {c : UInt8} (h : (c.toNat : Int) = 64) : c = 64 := UInt8.toNat_inj.1 (by rw [show (64 : UInt8).toNat = 64 from rfl]; omega)
set_option maxRecDepth 100000 in
set_option maxHeartbeats 8000000 in
theorem raddress_any (s : B) (w : World) (hl : s.length ≤ 1000000) : Calls Tryz.prog 29 #[sV s] w fun e w' => e = .returned (.bool (adr s)) ∧ w = w' := by
  rw [adr_D]
  have hs : (ByteArray.mk s.toArray).size = s.length := List.size_toArray
  go_enter Tryz.func29, Tryz.ntmps29
  go_wp2_with fail
  go_loopw [3, 4, 5] (fun vm vi _ wr => ∃ i m : Nat, i ≤ s.length ∧ m ≤ i ∧ vi = .int .i64 i ∧ vm = .int .i64 m ∧ wr = w ∧ Hid (m = (s.take i).count 64) ∧ Hid (∀ (j : Nat) y, j < i → s[j]? = some y → (y == 64 || nmC y) = true ∧ (y = 64 → j ≠ 0 ∧ j + 1 ≠ s.length))) (fun _ vi _ _ => s.length - (intOf vi).toNat)
  case atStart => exact ⟨0, 0, Nat.zero_le _, Nat.zero_le _, rfl, rfl, rfl, Lib.hid rfl, Lib.hid (fun j y h => absurd h (Nat.not_lt_zero _))⟩
  case round =>
    obtain ⟨i, m, hi, hmi, rfl, rfl, rfl, hM, hA⟩ := hrel
    by_cases hlt : i < s.length
    · have hltI : (i : Int) < s.length := by omega
      obtain ⟨c, hc⟩ : ∃ c, s[i]? = some c := ⟨_, List.getElem?_eq_getElem hlt⟩
      have hat := byte_at s i c hc
      have HX := Lib.hid hc
      have HC := Lib.hid (count_next hc)
      clear hc
      by_cases h64 : (c.toNat : Int) = 64
      · have hce := is64 h64
        subst hce
        clear h64
        by_cases e0 : (i : Int) = 0
        · have HZ := Lib.hid (adD_end HX.out (Or.inl (by omega)))
          have e0' : ((i : Int) == 0) = true := beq_iff_eq.2 e0
          clear hA hM e0
          go_wp2
          go_ret
          exact ⟨by rw [HZ.out]; rfl, rfl⟩
        · have e0' : ((i : Int) == 0) = false := beq_eq_false_iff_ne.2 e0
          have hw1 : IntKind.i64.wrap ((s.length : Int) - 1) = (s.length : Int) - 1 := by rw [IntKind.wrap_i64]; omega
          by_cases e1 : (i : Int) = (s.length : Int) - 1
          · have HZ := Lib.hid (adD_end HX.out (Or.inr (by omega)))
            have e1' : ((i : Int) == (s.length : Int) - 1) = true := beq_iff_eq.2 e1
            clear hA hM e1
            go_wp2
            go_ret
            exact ⟨by rw [HZ.out]; rfl, rfl⟩
          · have e1' : ((i : Int) == (s.length : Int) - 1) = false := beq_eq_false_iff_ne.2 e1
            have HA2 := Lib.hid (good_next hA.out HX.out ⟨rfl, fun _ => ⟨by omega, by omega⟩⟩)
            have HM2 := Lib.hid (show m + 1 = (s.take (i + 1)).count 64 by rw [HC.out, hM.out, if_pos rfl])
            clear hA hM e1
            go_wp2
            go_roundw
            case rel => exact ⟨i + 1, m + 1, hlt, by omega, by go_num, by go_num, by first | rfl | trivial, HM2, HA2⟩
            case measure => simp [intOf]; omega
      · have h64' : ((c.toNat : Int) == 64) = false := beq_eq_false_iff_ne.2 h64
        have hne : c ≠ 64 := fun e => h64 (by rw [e]; rfl)
        have hbe : (c == 64) = false := beq_eq_false_iff_ne.2 hne
        have HM2 := Lib.hid (show m = (s.take (i + 1)).count 64 by rw [HC.out, hM.out, if_neg hne]; rfl)
        have HAy := Lib.hid (fun (h : nmC c = true) => good_next hA.out HX.out ⟨by rw [h, Bool.or_true], fun e => absurd e hne⟩)
        have HAn := Lib.hid (fun (h : nmC c = false) => adD_bad HX.out (by rw [h, hbe]; rfl))
        have HN := Lib.hid (nm_cases c)
        clear hA hM hbe hne HC
        rcases HN.out with ⟨hq, h⟩ | ⟨h, hq⟩
        · have HQ := Lib.hid hq
          clear HN hq
          rcases h with h | h | h | h
          · have hI : (c.toNat : Int) = 46 := by omega
            have hce : c = 46 := UInt8.toNat_inj.1 (show c.toNat = 46 by omega)
            clear h h64 h64' hI
            subst hce
            have HA2 := Lib.hid (HAy.out HQ.out)
            clear HAy HAn HQ
            go_wp2
            go_roundw
            case rel => exact ⟨i + 1, m, hlt, by omega, by go_num, by go_num, by first | rfl | trivial, HM2, HA2⟩
            case measure => simp [intOf]; omega
          · have hI : (c.toNat : Int) = 45 := by omega
            have hce : c = 45 := UInt8.toNat_inj.1 (show c.toNat = 45 by omega)
            clear h h64 h64' hI
            subst hce
            have HA2 := Lib.hid (HAy.out HQ.out)
            clear HAy HAn HQ
            go_wp2
            go_roundw
            case rel => exact ⟨i + 1, m, hlt, by omega, by go_num, by go_num, by first | rfl | trivial, HM2, HA2⟩
            case measure => simp [intOf]; omega
          · have hI : (c.toNat : Int) = 95 := by omega
            have hce : c = 95 := UInt8.toNat_inj.1 (show c.toNat = 95 by omega)
            clear h h64 h64' hI
            subst hce
            have HA2 := Lib.hid (HAy.out HQ.out)
            clear HAy HAn HQ
            go_wp2
            go_roundw
            case rel => exact ⟨i + 1, m, hlt, by omega, by go_num, by go_num, by first | rfl | trivial, HM2, HA2⟩
            case measure => simp [intOf]; omega
          · have hI : (c.toNat : Int) = 43 := by omega
            have hce : c = 43 := UInt8.toNat_inj.1 (show c.toNat = 43 by omega)
            clear h h64 h64' hI
            subst hce
            have HA2 := Lib.hid (HAy.out HQ.out)
            clear HAy HAn HQ
            go_wp2
            go_roundw
            case rel => exact ⟨i + 1, m, hlt, by omega, by go_num, by go_num, by first | rfl | trivial, HM2, HA2⟩
            case measure => simp [intOf]; omega
        · have b1 : ((c.toNat : Int) == 46) = false := beq_eq_false_iff_ne.2 (by omega)
          have b2 : ((c.toNat : Int) == 45) = false := beq_eq_false_iff_ne.2 (by omega)
          have b3 : ((c.toNat : Int) == 95) = false := beq_eq_false_iff_ne.2 (by omega)
          have b4 : ((c.toNat : Int) == 43) = false := beq_eq_false_iff_ne.2 (by omega)
          have n1 : ¬ (c.toNat : Int) = 46 := by omega
          have n2 : ¬ (c.toNat : Int) = 45 := by omega
          have n3 : ¬ (c.toNat : Int) = 95 := by omega
          have n4 : ¬ (c.toNat : Int) = 43 := by omega
          clear HN h
          by_cases a1 : 97 ≤ (c.toNat : Int)
          · by_cases a2 : (c.toNat : Int) ≤ 122
            · have HQ := Lib.hid (show nmC c = true by rw [hq, decide_eq_true (show 97 ≤ (c.toNat : Int) ∧ (c.toNat : Int) ≤ 122 from ⟨a1, a2⟩)]; rfl)
              clear hq
              have HA2 := Lib.hid (HAy.out HQ.out)
              clear HAy HAn HQ
              go_wp2
              go_roundw
              case rel => exact ⟨i + 1, m, hlt, by omega, by go_num, by go_num, by first | rfl | trivial, HM2, HA2⟩
              case measure => simp [intOf]; omega
            · have a3 : 65 ≤ (c.toNat : Int) := by omega
              have a4 : ¬ (c.toNat : Int) ≤ 90 := by omega
              have a5 : 48 ≤ (c.toNat : Int) := by omega
              have a6 : ¬ (c.toNat : Int) ≤ 57 := by omega
              have HQ := Lib.hid (show nmC c = false by rw [hq, decide_eq_false (fun e => a2 e.2), decide_eq_false (fun e => a4 e.2), decide_eq_false (fun e => a6 e.2)]; rfl)
              clear hq
              have HZ := Lib.hid (HAn.out HQ.out)
              clear HAy HAn HQ HM2
              go_wp2
              go_ret
              exact ⟨eb_ret HZ.out.symm, rfl⟩
          · by_cases a3 : 65 ≤ (c.toNat : Int)
            · by_cases a4 : (c.toNat : Int) ≤ 90
              · have HQ := Lib.hid (show nmC c = true by rw [hq, decide_eq_true (show 65 ≤ (c.toNat : Int) ∧ (c.toNat : Int) ≤ 90 from ⟨a3, a4⟩), Bool.true_or, Bool.or_true])
                clear hq
                have HA2 := Lib.hid (HAy.out HQ.out)
                clear HAy HAn HQ
                go_wp2
                go_roundw
                case rel => exact ⟨i + 1, m, hlt, by omega, by go_num, by go_num, by first | rfl | trivial, HM2, HA2⟩
                case measure => simp [intOf]; omega
              · have a5 : 48 ≤ (c.toNat : Int) := by omega
                have a6 : ¬ (c.toNat : Int) ≤ 57 := by omega
                have HQ := Lib.hid (show nmC c = false by rw [hq, decide_eq_false (fun e => a1 e.1), decide_eq_false (fun e => a4 e.2), decide_eq_false (fun e => a6 e.2)]; rfl)
                clear hq
                have HZ := Lib.hid (HAn.out HQ.out)
                clear HAy HAn HQ HM2
                go_wp2
                go_ret
                exact ⟨eb_ret HZ.out.symm, rfl⟩
            · by_cases a5 : 48 ≤ (c.toNat : Int)
              · by_cases a6 : (c.toNat : Int) ≤ 57
                · have HQ := Lib.hid (show nmC c = true by rw [hq, decide_eq_true (show 48 ≤ (c.toNat : Int) ∧ (c.toNat : Int) ≤ 57 from ⟨a5, a6⟩), Bool.or_true, Bool.or_true])
                  clear hq
                  have HA2 := Lib.hid (HAy.out HQ.out)
                  clear HAy HAn HQ
                  go_wp2
                  go_roundw
                  case rel => exact ⟨i + 1, m, hlt, by omega, by go_num, by go_num, by first | rfl | trivial, HM2, HA2⟩
                  case measure => simp [intOf]; omega
                · have HQ := Lib.hid (show nmC c = false by rw [hq, decide_eq_false (fun e => a1 e.1), decide_eq_false (fun e => a3 e.1), decide_eq_false (fun e => a6 e.2)]; rfl)
                  clear hq
                  have HZ := Lib.hid (HAn.out HQ.out)
                  clear HAy HAn HQ HM2
                  go_wp2
                  go_ret
                  exact ⟨eb_ret HZ.out.symm, rfl⟩
              · have HQ := Lib.hid (show nmC c = false by rw [hq, decide_eq_false (fun e => a1 e.1), decide_eq_false (fun e => a3 e.1), decide_eq_false (fun e => a5 e.1)]; rfl)
                clear hq
                have HZ := Lib.hid (HAn.out HQ.out)
                clear HAy HAn HQ HM2
                go_wp2
                go_ret
                exact ⟨eb_ret HZ.out.symm, rfl⟩
    · have hltI : ¬ (i : Int) < s.length := by omega
      obtain rfl : i = s.length := by omega
      rw [List.take_length] at hM
      have HZ := Lib.hid (adD_fin (fun j y hy => hA.out j y (List.getElem?_eq_some_iff.1 hy).1 hy))
      have HM := Lib.hid hM.out
      clear hA hM
      by_cases g1 : (m : Int) = 1
      · have g1' : ((m : Int) == 1) = true := beq_iff_eq.2 g1
        have hm1 : m = 1 := by omega
        clear g1
        by_cases g2 : (3 : Int) ≤ s.length
        · have HY := Lib.hid (show adD s = decide (s.length ≤ 60) by rw [HZ.out, ← HM.out]; exact decide_eq_decide.2 ⟨fun e => e.2.2, fun e => ⟨hm1, by omega, e⟩⟩)
          clear HZ HM hm1
          go_wp2
          go_ret
          exact ⟨eb_ret (by rw [HY.out]; exact decide_eq_decide.2 (by omega)), rfl⟩
        · have HY := Lib.hid (show adD s = false by rw [HZ.out]; exact decide_eq_false (fun e => g2 (by have := e.2.1; omega)))
          clear HZ HM hm1
          go_wp2
          go_ret
          exact ⟨eb_ret HY.out.symm, rfl⟩
      · have g1' : ((m : Int) == 1) = false := beq_eq_false_iff_ne.2 g1
        have HY := Lib.hid (show adD s = false by rw [HZ.out, ← HM.out]; exact decide_eq_false (fun e => g1 (by have := e.1; omega)))
        clear HZ HM g1
        go_wp2
        go_ret
        exact ⟨eb_ret HY.out.symm, rfl⟩
end Go.Proofs.YtjlpkgipdkjfhaaGreatDoor.Bk.Dg
