/- Contracts of package zone: the reader's numbers, times, names. -/
import Derived.Test.YtomnjdammfiadaaDoorZnRd
namespace Go.Proofs.YtomnjdammfiadaaDoor
open Go.ChangeShapes Go.WideShapes Go.ChangeAt Go.RowKit
open Zn
theorem tw_all (p : UInt8 → Bool) (l : List UInt8) : ∀ x ∈ l.takeWhile p, p x = true := by
  induction l with
  | nil => simp
  | cons c r ih =>
    rw [List.takeWhile_cons]
    split
    · rename_i h; intro x hx; rcases List.mem_cons.1 hx with rfl | hx
      · exact h
      · exact ih x hx
    · simp
theorem skp_len (c : UInt8) (l : List UInt8) : (skp c l).2.length ≤ l.length := by
  cases l with
  | nil => exact Nat.le_refl _
  | cons b r => simp only [skp]; split <;> simp
theorem dw_len (p : UInt8 → Bool) (l : List UInt8) : (l.dropWhile p).length ≤ l.length := by
  rw [← drop_tw]; simp
theorem num_len (l : List UInt8) : (num l).2.length ≤ l.length := dw_len dgt l
def NumIn (T : List UInt8) (a i : Value) : Prop := ∃ j : Nat, j ≤ T.length ∧ i = .int .i64 j ∧ a = .int .i64 (numV (T.take j))
theorem numV_succ (T : List UInt8) (j : Nat) (h : j < T.length) : numV (T.take (j + 1)) = wr (wr (numV (T.take j) * 10) + ((T[j].toNat : Int) - 48)) := by
  rw [List.take_succ_eq_append_getElem h, numV_snoc]
set_option maxHeartbeats 1000000 in
theorem number_any (l : List UInt8) (bk : Nat) (w : World) (h : Rd bk l w) (hl : l.length ≤ 1000) :
    Calls Tryd.prog 56 #[.pointer (some ⟨bk, 0, none⟩)] w (StepPost (.int .i64 (num l).1) (num l).2 bk w) := by
  have hq : ∀ x ∈ l.takeWhile dgt, dgt x = true := tw_all dgt l
  have h3 := tw_le dgt l
  have H := Lib.hid h; clear h
  have HL := Lib.hid hl; clear hl
  go_enter Tryd.func56, Tryd.ntmps56
  go_wp2_with fail
  refine (take_dgt l bk _ H.out HL.out).mono ?_
  rintro e w1 ⟨rfl, ho, hr⟩
  have hN := Lib.hid (show num l = (numV (l.takeWhile dgt), l.dropWhile dgt) from rfl)
  have HR := Lib.hid hr; clear hr
  have HO := Lib.hid ho; clear ho
  generalize l.takeWhile dgt = T at *
  have HQ := Lib.hid hq; clear hq
  have hlt : T.length ≤ 1000 := by have := HL.out; omega
  have hcv : ∀ W, (convert 9 66 (.string ⟨T.toArray⟩)).run Tryd.prog W = .ok (.slice (some ⟨W.heap.size, 0, none⟩) T.length (grownCap W T.length 0 5)) (Lib.bytesWorld W 5 ⟨T.toArray⟩) := fun W => Lib.run_convert_string_bytes W _ _ _ _ Tryd.underlying9 Tryd.underlying66 Tryd.underlying5
  have hcell := Lib.hid (fun j (hj : j < T.length) => Lib.bytesWorld_cell w1 5 ⟨T.toArray⟩ j hj)
  have KP := Lib.hid (kept_bytes w1 5 ⟨T.toArray⟩)
  go_wp2_with fail
  clear hcv
  generalize Lib.bytesWorld w1 5 ⟨T.toArray⟩ = W2 at *
  generalize grownCap w1 T.length 0 5 = cp at *
  go_loop [3, 10] (fun a i => NumIn T a i) (fun _ i => T.length - (intOf i).toNat)
  case atStart => exact ⟨0, Nat.zero_le _, rfl, rfl⟩
  case round =>
    obtain ⟨j, hj, rfl, rfl⟩ := hrel
    by_cases hjl : j < T.length
    · have hs := Lib.hid (numV_succ T j hjl)
      have hd := HQ.out T[j] (List.getElem_mem hjl)
      simp only [dgt, decide_eq_true_eq] at hd
      have d1 : 48 ≤ (T[j].toNat : Int) := by omega
      have d2 : (T[j].toNat : Int) ≤ 57 := by omega
      clear hd
      have hc : W2.cell? ⟨w1.heap.size, j, none⟩ = some (.int .u8 T[j].toNat) := by rw [hcell.out j hjl]; simp [hjl]
      generalize hn : numV (T.take j) = n at *
      have HN := Lib.hid hn; clear hn
      generalize T[j] = c at *
      go_wp2
      go_round
      case rel => exact ⟨j + 1, by omega, by go_num, by rw [hs.out]; rfl⟩
      case measure => simp [intOf]; omega
    · have hje : j = T.length := by omega
      have hE := Lib.hid hje; clear hje
      go_wp2
      go_ret
      refine ⟨?_, ?_, ?_⟩
      · rw [hN.out, hE.out, List.take_length]; rfl
      · exact HO.out.trans (Only.of_kept KP.out HR.out.lt)
      · rw [hN.out]
        exact HR.out.step (Only.of_kept KP.out HR.out.lt) ((KP.out.cell (a := ⟨bk, 0, none⟩) HR.out.lt).trans HR.out.cell)
theorem tim_eq (l : List UInt8) : tim l = if (skp 45 l).1 = true then (wr (-(timU (skp 45 l).2).1), (timU (skp 45 l).2).2) else timU (skp 45 l).2 := by
  unfold tim
  rcases skp 45 l with ⟨b, r⟩
  cases b <;> simp
theorem timM_yes {s : Int} {l : List UInt8} (h : (skp 58 l).1 = true) : timM s l = (wr (s + wr ((num (skp 58 l).2).1 * 60)), (num (skp 58 l).2).2) := by
  unfold timM; rcases hk : skp 58 l with ⟨b, r⟩; rw [hk] at h; simp only at h; subst h; rfl
theorem timM_no {s : Int} {l : List UInt8} (h : (skp 58 l).1 = false) : timM s l = (s, (skp 58 l).2) := by
  unfold timM; rcases hk : skp 58 l with ⟨b, r⟩; rw [hk] at h; simp only at h; subst h; rfl
theorem timS_yes {s : Int} {l : List UInt8} (h : (skp 58 l).1 = true) : timS s l = (wr (s + (num (skp 58 l).2).1), (num (skp 58 l).2).2) := by
  unfold timS; rcases hk : skp 58 l with ⟨b, r⟩; rw [hk] at h; simp only at h; subst h; rfl
theorem timS_no {s : Int} {l : List UInt8} (h : (skp 58 l).1 = false) : timS s l = (s, (skp 58 l).2) := by
  unfold timS; rcases hk : skp 58 l with ⟨b, r⟩; rw [hk] at h; simp only at h; subst h; rfl
theorem Only.lt {bk : Nat} {w w' : World} (h : Only bk w w') : w.heap.size ≤ w'.heap.size := h.size
set_option maxHeartbeats 2000000 in
theorem time_any (l : List UInt8) (bk : Nat) (w : World) (h : Rd bk l w) (hl : l.length ≤ 1000) :
    Calls Tryd.prog 45 #[.pointer (some ⟨bk, 0, none⟩)] w (StepPost (.int .i64 (tim l).1) (tim l).2 bk w) := by
  have H := Lib.hid h; clear h
  have l1 := skp_len 45 l
  have TE := Lib.hid (tim_eq l)
  go_enter Tryd.func45, Tryd.ntmps45
  go_wp2_with fail
  refine (skip_any 45 l bk _ H.out).mono ?_
  rintro e w1 ⟨rfl, o1, r1⟩
  have O1 := Lib.hid o1; clear o1
  have R1 := Lib.hid r1; clear r1
  generalize (skp 45 l).1 = below at *
  generalize (skp 45 l).2 = la at *
  have l2 := num_len la
  go_wp2_with fail
  refine (number_any la bk _ R1.out (by omega)).mono ?_
  rintro e w2 ⟨rfl, o2, r2⟩
  have O2 := Lib.hid (O1.out.trans o2); clear o2 O1
  have R2 := Lib.hid r2; clear r2 R1
  have UE := Lib.hid (show timU la = timS (timM (wr ((num la).1 * 3600)) (num la).2).1 (timM (wr ((num la).1 * 3600)) (num la).2).2 from rfl)
  generalize (num la).1 = na at *
  generalize (num la).2 = lb at *
  have l3 := skp_len 58 lb
  go_wp2_with fail
  refine (skip_any 58 lb bk _ R2.out).mono ?_
  rintro e w3 ⟨rfl, o3, r3⟩
  have O3 := Lib.hid (O2.out.trans o3); clear o3 O2
  have R3 := Lib.hid r3; clear r3 R2
  cases hm : (skp 58 lb).1 with
  | true =>
    have ME := Lib.hid (timM_yes (s := wr (na * 3600)) hm); clear hm
    generalize (skp 58 lb).2 = lc at *
    have l4 := num_len lc
    go_wp2_with fail
    refine (number_any lc bk _ R3.out (by omega)).mono ?_
    rintro e w4 ⟨rfl, o4, r4⟩
    have O4 := Lib.hid (O3.out.trans o4); clear o4 O3
    have R4 := Lib.hid r4; clear r4 R3
    generalize (num lc).1 = nc at *
    generalize (num lc).2 = ld at *
    have l5 := skp_len 58 ld
    go_wp2_with fail
    refine (skip_any 58 ld bk _ R4.out).mono ?_
    rintro e w5 ⟨rfl, o5, r5⟩
    have O5 := Lib.hid (O4.out.trans o5); clear o5 O4
    have R5 := Lib.hid r5; clear r5 R4
    cases hs : (skp 58 ld).1 with
    | true =>
      have SE := Lib.hid (timS_yes (s := wr (wr (na * 3600) + wr (nc * 60))) hs); clear hs
      generalize (skp 58 ld).2 = le at *
      have l6 := num_len le
      go_wp2_with fail
      refine (number_any le bk _ R5.out (by omega)).mono ?_
      rintro e w6 ⟨rfl, o6, r6⟩
      have O6 := Lib.hid (O5.out.trans o6); clear o6 O5
      have R6 := Lib.hid r6; clear r6 R5
      generalize (num le).1 = ne at *
      generalize (num le).2 = lf at *
      have FE := Lib.hid (show timU la = (wr (wr (wr (na * 3600) + wr (nc * 60)) + ne), lf) by rw [UE.out, ME.out, SE.out])
      clear UE ME SE
      cases below
      all_goals
        go_wp2
        go_ret
        rw [TE.out, FE.out]
        exact ⟨rfl, O6.out, R6.out⟩
    | false =>
      have SE := Lib.hid (timS_no (s := wr (wr (na * 3600) + wr (nc * 60))) hs); clear hs
      generalize (skp 58 ld).2 = le at *
      have FE := Lib.hid (show timU la = (wr (wr (na * 3600) + wr (nc * 60)), le) by rw [UE.out, ME.out, SE.out])
      clear UE ME SE
      cases below
      all_goals
        go_wp2
        go_ret
        rw [TE.out, FE.out]
        exact ⟨rfl, O5.out, R5.out⟩
  | false =>
    have ME := Lib.hid (timM_no (s := wr (na * 3600)) hm); clear hm
    generalize (skp 58 lb).2 = ld at *
    have l5 := skp_len 58 ld
    go_wp2_with fail
    refine (skip_any 58 ld bk _ R3.out).mono ?_
    rintro e w5 ⟨rfl, o5, r5⟩
    have O5 := Lib.hid (O3.out.trans o5); clear o5 O3
    have R5 := Lib.hid r5; clear r5 R3
    cases hs : (skp 58 ld).1 with
    | true =>
      have SE := Lib.hid (timS_yes (s := wr (na * 3600)) hs); clear hs
      generalize (skp 58 ld).2 = le at *
      have l6 := num_len le
      go_wp2_with fail
      refine (number_any le bk _ R5.out (by omega)).mono ?_
      rintro e w6 ⟨rfl, o6, r6⟩
      have O6 := Lib.hid (O5.out.trans o6); clear o6 O5
      have R6 := Lib.hid r6; clear r6 R5
      generalize (num le).1 = ne at *
      generalize (num le).2 = lf at *
      have FE := Lib.hid (show timU la = (wr (wr (na * 3600) + ne), lf) by rw [UE.out, ME.out, SE.out])
      clear UE ME SE
      cases below
      all_goals
        go_wp2
        go_ret
        rw [TE.out, FE.out]
        exact ⟨rfl, O6.out, R6.out⟩
    | false =>
      have SE := Lib.hid (timS_no (s := wr (na * 3600)) hs); clear hs
      generalize (skp 58 ld).2 = le at *
      have FE := Lib.hid (show timU la = (wr (na * 3600), le) by rw [UE.out, ME.out, SE.out])
      clear UE ME SE
      cases below
      all_goals
        go_wp2
        go_ret
        rw [TE.out, FE.out]
        exact ⟨rfl, O5.out, R5.out⟩
theorem nam_yes {l : List UInt8} (h : (skp 60 l).1 = true) : nam l = ((skp 60 l).2.takeWhile nmb, (skp 62 ((skp 60 l).2.dropWhile nmb)).2) := by
  unfold nam; rcases hk : skp 60 l with ⟨b, r⟩; rw [hk] at h; simp only at h; subst h; rfl
theorem nam_no {l : List UInt8} (h : (skp 60 l).1 = false) : nam l = ((skp 60 l).2.takeWhile ltr, (skp 60 l).2.dropWhile ltr) := by
  unfold nam; rcases hk : skp 60 l with ⟨b, r⟩; rw [hk] at h; simp only at h; subst h; rfl
set_option maxHeartbeats 2000000 in
theorem name_any (l : List UInt8) (bk : Nat) (w : World) (h : Rd bk l w) (hl : l.length ≤ 1000) :
    Calls Tryd.prog 44 #[.pointer (some ⟨bk, 0, none⟩)] w (StepPost (.string ⟨(nam l).1.toArray⟩) (nam l).2 bk w) := by
  have H := Lib.hid h; clear h
  have l1 := skp_len 60 l
  go_enter Tryd.func44, Tryd.ntmps44
  go_wp2_with fail
  refine (skip_any 60 l bk _ H.out).mono ?_
  rintro e w1 ⟨rfl, o1, r1⟩
  have O1 := Lib.hid o1; clear o1
  have R1 := Lib.hid r1; clear r1
  cases hb : (skp 60 l).1 with
  | true =>
    have NE := Lib.hid (nam_yes hb); clear hb
    generalize (skp 60 l).2 = la at *
    go_wp2_with fail
    refine (take_nmb la bk _ R1.out (by omega)).mono ?_
    rintro e w2 ⟨rfl, o2, r2⟩
    have O2 := Lib.hid (O1.out.trans o2); clear o2 O1
    have R2 := Lib.hid r2; clear r2 R1
    generalize la.takeWhile nmb = T at *
    generalize la.dropWhile nmb = D at *
    go_wp2_with fail
    refine (skip_any 62 D bk _ R2.out).mono ?_
    rintro e w3 ⟨rfl, o3, r3⟩
    have O3 := Lib.hid (O2.out.trans o3); clear o3 O2
    have R3 := Lib.hid r3; clear r3 R2
    generalize (skp 62 D).2 = lb at *
    generalize (skp 62 D).1 = bb at *
    go_wp2
    go_ret
    rw [NE.out]
    exact ⟨rfl, O3.out, R3.out⟩
  | false =>
    have NE := Lib.hid (nam_no hb); clear hb
    generalize (skp 60 l).2 = la at *
    go_wp2_with fail
    refine (take_ltr la bk _ R1.out (by omega)).mono ?_
    rintro e w2 ⟨rfl, o2, r2⟩
    have O2 := Lib.hid (O1.out.trans o2); clear o2 O1
    have R2 := Lib.hid r2; clear r2 R1
    generalize la.takeWhile ltr = T at *
    generalize la.dropWhile ltr = D at *
    go_wp2
    go_ret
    rw [NE.out]
    exact ⟨rfl, O2.out, R2.out⟩
theorem timM_len (s : Int) (l : List UInt8) : (timM s l).2.length ≤ l.length := by
  have h1 := skp_len 58 l
  have h2 := num_len (skp 58 l).2
  cases h : (skp 58 l).1 with
  | true => rw [timM_yes h]; simp only; omega
  | false => rw [timM_no h]; simp only; omega
theorem timS_len (s : Int) (l : List UInt8) : (timS s l).2.length ≤ l.length := by
  have h1 := skp_len 58 l
  have h2 := num_len (skp 58 l).2
  cases h : (skp 58 l).1 with
  | true => rw [timS_yes h]; simp only; omega
  | false => rw [timS_no h]; simp only; omega
theorem timU_len (l : List UInt8) : (timU l).2.length ≤ l.length := by
  unfold timU
  have h1 := num_len l
  have h2 := timM_len (wr ((num l).1 * 3600)) (num l).2
  have h3 := timS_len (timM (wr ((num l).1 * 3600)) (num l).2).1 (timM (wr ((num l).1 * 3600)) (num l).2).2
  omega
theorem tim_len (l : List UInt8) : (tim l).2.length ≤ l.length := by
  have h1 := skp_len 45 l
  have h2 := timU_len (skp 45 l).2
  rw [tim_eq]; split
  · simp only; omega
  · omega
theorem nam_len (l : List UInt8) : (nam l).2.length ≤ l.length := by
  have h1 := skp_len 60 l
  cases h : (skp 60 l).1 with
  | true =>
    have h2 := dw_len nmb (skp 60 l).2
    have h3 := skp_len 62 ((skp 60 l).2.dropWhile nmb)
    rw [nam_yes h]; simp only; omega
  | false =>
    have h2 := dw_len ltr (skp 60 l).2
    rw [nam_no h]; simp only; omega
end Go.Proofs.YtomnjdammfiadaaDoor
