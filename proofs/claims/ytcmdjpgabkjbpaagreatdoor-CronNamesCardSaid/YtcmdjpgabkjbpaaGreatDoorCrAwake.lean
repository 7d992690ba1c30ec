/- The chapter's examples. -/
import Derived.Test.YtcmdjpgabkjbpaaGreatDoorCrWrite
import Derived.Test.YtcmdjpgabkjbpaaGreatDoorCrMatch
set_option linter.unusedVariables false
namespace Go.Proofs.YtcmdjpgabkjbpaaGreatDoor
open Go.ChangeShapes Go.WideShapes Go.ChangeAt Go.RowKit
open Crn Civ
/-- all that a schedule is -/
def tup (c : CR) : (List Int × List Int × List Int × List Int × List Int) × (Bool × Bool × Bool × Bool × Bool) := ((c.L 0, c.L 1, c.L 2, c.L 3, c.L 4), (c.st 0, c.st 1, c.st 2, c.st 3, c.st 4))
abbrev sA : List UInt8 := [51, 48, 32, 54, 32, 42, 32, 42, 32, 109, 111, 110, 45, 102, 114, 105]
abbrev sB : List UInt8 := [48, 32, 48, 32, 49, 51, 32, 42, 32, 53]
theorem prs_A : (prs sA).map tup = some (([30], [6], [1, 2, 3, 4, 5, 6, 7, 8, 9, 10, 11, 12, 13, 14, 15, 16, 17, 18, 19, 20, 21, 22, 23, 24, 25, 26, 27, 28, 29, 30, 31], [1, 2, 3, 4, 5, 6, 7, 8, 9, 10, 11, 12], [1, 2, 3, 4, 5]), (false, false, true, true, false)) := by kernel_rfl
theorem prs_B : (prs sB).map tup = some (([0], [0], [13], [1, 2, 3, 4, 5, 6, 7, 8, 9, 10, 11, 12], [5]), (false, false, false, true, false)) := by kernel_rfl
def d2 (n : Int) : List UInt8 := if n < 10 then [UInt8.ofNat (48 + n.toNat)] else [UInt8.ofNat (48 + n.toNat / 10), UInt8.ofNat (48 + n.toNat % 10)]
theorem itoa_d2 (n : Int) (h0 : 0 ≤ n) (h1 : n < 100) : Lib.itoa n = d2 n := by
  unfold Lib.itoa d2
  rw [if_neg (by omega)]
  by_cases h : n < 10
  · rw [if_pos h, Lib.decDigits_one (by omega)]
  · rw [if_neg h, Lib.decDigits, dif_neg (by omega), Lib.decDigits_one (by omega)]; rfl
def ptx2 (l : List Int) (s : Bool) : List UInt8 := if s = true then [42] else Lib.join (l.map d2) [44]
theorem ptxt_2 {l : List Int} {s : Bool} (h : ∀ x ∈ l, 0 ≤ x ∧ x < 100) : ptxt l s = ptx2 l s := by
  unfold ptxt ptx2
  rw [List.map_congr_left (fun x hx => itoa_d2 x (h x hx).1 (h x hx).2)]
def wtx2 (c : CR) : List UInt8 := Lib.join [ptx2 (c.L 0) (c.st 0), ptx2 (c.L 1) (c.st 1), ptx2 (c.L 2) (c.st 2), ptx2 (c.L 3) (c.st 3), ptx2 (c.L 4) (c.st 4)] [32]
theorem wtxt_2 {c : CR} (h : mayC c = true) : wtxt c = wtx2 c := by
  have q : ∀ k, k < 5 → ptxt (c.L k) (c.st k) = ptx2 (c.L k) (c.st k) := fun k hk => ptxt_2 (fun x hx => by
    obtain ⟨b1, _, _⟩ := mayF_bd (mayC_at h k hk)
    have := b1 x hx; have := lo_bd k; have := hi_bd k; omega)
  unfold wtxt wtx2
  rw [q 0 (by omega), q 1 (by omega), q 2 (by omega), q 3 (by omega), q 4 (by omega)]
/-- what the tests ask of a schedule, of what it is -/
def mayT (t : (List Int × List Int × List Int × List Int × List Int) × (Bool × Bool × Bool × Bool × Bool)) : Bool := mayF 0 t.1.1 t.2.1 && mayF 1 t.1.2.1 t.2.2.1 && mayF 2 t.1.2.2.1 t.2.2.2.1 && mayF 3 t.1.2.2.2.1 t.2.2.2.2.1 && mayF 4 t.1.2.2.2.2 t.2.2.2.2.2
theorem mayT_eq (c : CR) : mayC c = mayT (tup c) := rfl
def wtxT (t : (List Int × List Int × List Int × List Int × List Int) × (Bool × Bool × Bool × Bool × Bool)) : List UInt8 := Lib.join [ptx2 t.1.1 t.2.1, ptx2 t.1.2.1 t.2.2.1, ptx2 t.1.2.2.1 t.2.2.2.1, ptx2 t.1.2.2.2.1 t.2.2.2.2.1, ptx2 t.1.2.2.2.2 t.2.2.2.2.2] [32]
theorem wtxT_eq (c : CR) : wtx2 c = wtxT (tup c) := rfl
noncomputable def dayT (t : (List Int × List Int × List Int × List Int × List Int) × (Bool × Bool × Bool × Bool × Bool)) (y m d : Int) : Bool := okB y m d && mayT t && hasB t.1.2.2.2.1 m && (if (t.2.2.2.1 || t.2.2.2.2.2) = true then hasB t.1.2.2.1 d && hasB t.1.2.2.2.2 (wd (ord y m d)) else hasB t.1.2.2.1 d || hasB t.1.2.2.2.2 (wd (ord y m d)))
theorem dayT_eq (c : CR) (y m d : Int) : dayC c y m d = dayT (tup c) y m d := rfl
noncomputable def matchT (t : (List Int × List Int × List Int × List Int × List Int) × (Bool × Bool × Bool × Bool × Bool)) (y m d h i s : Int) : Bool := mayB y m d h i s && decide (s = 0) && hasB t.1.1 i && hasB t.1.2.1 h && dayT t y m d
theorem matchT_eq (c : CR) (y m d h i s : Int) : matchC c y m d h i s = matchT (tup c) y m d h i s := rfl
theorem ex_A : ∃ c, prs sA = some c ∧ mayC c = true ∧ wtxt c = [51, 48, 32, 54, 32, 42, 32, 42, 32, 49, 44, 50, 44, 51, 44, 52, 44, 53] ∧ matchC c 2024 5 6 6 30 0 = true := by
  have h := prs_A
  cases hp : prs sA with
  | none => rw [hp] at h; cases h
  | some c =>
    rw [hp] at h
    have ht : tup c = _ := Option.some.inj h
    have hm : mayC c = true := by rw [mayT_eq, ht]; decide +kernel
    exact ⟨c, rfl, hm, by rw [wtxt_2 hm, wtxT_eq, ht]; decide +kernel, by rw [matchT_eq, ht]; decide +kernel⟩
theorem ex_B : ∃ c, prs sB = some c ∧ dayC c 2024 5 10 = true ∧ dayC c 2024 5 13 = true ∧ dayC c 2024 5 14 = false := by
  have h := prs_B
  cases hp : prs sB with
  | none => rw [hp] at h; cases h
  | some c =>
    rw [hp] at h
    have ht : tup c = _ := Option.some.inj h
    exact ⟨c, rfl, by rw [dayT_eq, ht]; decide +kernel, by rw [dayT_eq, ht]; decide +kernel, by rw [dayT_eq, ht]; decide +kernel⟩
theorem box_z (x : World) : (x.alloc (.cells z10 27)).heap[x.heap.size]? = some (.cells z10 27) := new_block x _
theorem box_k (x : World) (sl : Nat → Value) (st : Nat → Bool) : Kept x ((x.alloc (.cells z10 27)).setRow x.heap.size (cr10 sl st)) := ((Kept.refl x).alloc _).setRow (Nat.le_refl _) _
theorem box_b (x : World) (sl : Nat → Value) (st : Nat → Bool) : Cb x.heap.size sl st ((x.alloc (.cells z10 27)).setRow x.heap.size (cr10 sl st)) := setRow_heap _ _ _ _ _ _ (box_z x)
theorem rs_one {x : World} {v : Value} {l : List Int} (h : Rs x v l) : v.oneCell' = true := by
  obtain ⟨ad, c, rfl⟩ := h.slice; rfl
theorem cr_ones {x : World} {sl : Nat → Value} {L : Nat → List Int} (st : Nat → Bool) (h : Cr x sl L) : (cr10 sl st).all (·.oneCell') = true :=
  cr_one sl st (rs_one (h 0 (by omega))) (rs_one (h 1 (by omega))) (rs_one (h 2 (by omega))) (rs_one (h 3 (by omega))) (rs_one (h 4 (by omega)))
set_option maxRecDepth 100000 in
set_option maxHeartbeats 4000000 in
theorem awake_yes (w : World) (htab : Tab w) : Calls Tryz.prog 10 #[] w fun e w' => e = .returned (.bool true) ∧ Kept w w' := by
  obtain ⟨A, a1, a2, a3, a4⟩ := ex_A
  obtain ⟨B, b1, b2, b3, b4⟩ := ex_B
  have T0 := Lib.hid (Tb.start htab)
  have PA := Lib.hid (show ∀ W e W', ParsePost sA W e W' → ∃ sl, e = .returned (.tuple #[crV sl A.st, .int .i64 0]) ∧ Cr W' sl A.L ∧ Kept W W' from fun W e W' h => by
    unfold ParsePost at h
    rw [if_neg (by decide), a1] at h
    obtain ⟨sl, h1, h2, h3⟩ := h
    exact ⟨sl, h1, fun i hi => (h2 i hi).rs, h3⟩)
  have PB := Lib.hid (show ∀ W e W', ParsePost sB W e W' → ∃ sl, e = .returned (.tuple #[crV sl B.st, .int .i64 0]) ∧ Cr W' sl B.L ∧ Kept W W' from fun W e W' h => by
    unfold ParsePost at h
    rw [if_neg (by decide), b1] at h
    obtain ⟨sl, h1, h2, h3⟩ := h
    exact ⟨sl, h1, fun i hi => (h2 i hi).rs, h3⟩)
  clear htab a1 b1
  go_enter Tryz.func10, Tryz.ntmps10
  go_wp2_with fail
  refine (parse_any sA w.heap.size _ T0.out (Nat.le_refl _) (by decide)).mono ?_
  intro e x1 hp
  obtain ⟨sa, rfl, ca, k1⟩ := PA.out _ _ _ hp
  have T1 := Lib.hid (T0.out.kept k1)
  have hs1 := k1.size
  have CA := Lib.hid ca
  have HZ1 := Lib.hid (box_z x1)
  have k2 := box_k x1 sa A.st
  have BA := Lib.hid (box_b x1 sa A.st)
  have ho1 := cr_ones A.st ca
  have T2 := Lib.hid (T1.out.kept k2)
  have CA2 := Lib.hid (CA.out.kept k2)
  have K2 := Lib.hid (k1.trans k2)
  clear hp ca k1 k2 T1 CA
  go_upto_region 2 with (refine wpList_store_row rfl 27 _ _ rfl x1.heap.size _ rfl rfl 27 _ HZ1.out (by kernel_rfl) rfl ho1 ?_)
  generalize (x1.alloc (.cells z10 27)).setRow x1.heap.size (cr10 sa A.st) = x2 at *
  have hs2 := K2.out.size
  go_wp2_with fail
  refine (parse_any sB w.heap.size _ T2.out hs2 (by decide)).mono ?_
  intro e x3 hp
  obtain ⟨sb, rfl, cb, k3⟩ := PB.out _ _ _ hp
  have BA3 := Lib.hid (BA.out.kept k3); have CA3 := Lib.hid (CA2.out.kept k3)
  have HZ3 := Lib.hid (box_z x3)
  have k4 := box_k x3 sb B.st
  have BB := Lib.hid (box_b x3 sb B.st)
  have ho3 := cr_ones B.st cb
  have BA4 := Lib.hid (BA3.out.kept k4); have CA4 := Lib.hid (CA3.out.kept k4)
  have CB4 := Lib.hid (cb.kept k4)
  have K4 := Lib.hid (K2.out.trans (k3.trans k4))
  clear hp cb k3 k4 BA BA3 CA2 CA3 K2 T2 hs2 ho1
  go_upto_region 3 with (refine wpList_store_row rfl 27 _ _ rfl x3.heap.size _ rfl rfl 27 _ HZ3.out (by kernel_rfl) rfl ho3 ?_)
  generalize (x3.alloc (.cells z10 27)).setRow x3.heap.size (cr10 sb B.st) = x4 at *
  clear ho3 HZ1 HZ3
  go_wp2_with (refine wpList_load_row rfl 27 _ rfl x1.heap.size rfl 27 _ (0, 0) _ BA4.out Tryz.underlying27 rfl (by kernel_rfl) ?_)
  refine (cwrite_any A sa _ CA4.out).mono ?_
  rintro e x5 ⟨hw, -, k5⟩
  have hw2 := hw a2
  rw [a3] at hw2
  subst hw2
  clear hw
  have BA5 := Lib.hid (BA4.out.kept k5); have CA5 := Lib.hid (CA4.out.kept k5); have BB5 := Lib.hid (BB.out.kept k5); have CB5 := Lib.hid (CB4.out.kept k5); have K5 := Lib.hid (K4.out.trans k5)
  clear k5 BA4 CA4 BB CB4 K4
  obtain ⟨e0, e1, e2, e3, e4, e5, e6, e7, e8, e9⟩ := cells10 BA5.out
  obtain ⟨v0, v1, v2, v3, v4, v5, v6, v7, v8, v9⟩ := cells10 BB5.out
  go_wp2_with fail
  refine (match_any A sa 2024 5 6 6 30 0 _ CA5.out).mono ?_
  rintro e x6 ⟨rfl, k6⟩
  rw [a4]
  clear e0 e1 e2 e3 e4 e5 e6 e7 e8 e9 v0 v1 v2 v3 v4 v5 v6 v7 v8 v9
  have BA6 := Lib.hid (BA5.out.kept k6); have CA6 := Lib.hid (CA5.out.kept k6); have BB6 := Lib.hid (BB5.out.kept k6); have CB6 := Lib.hid (CB5.out.kept k6); have K6 := Lib.hid (K5.out.trans k6)
  clear k6 BA5 CA5 BB5 CB5 K5
  obtain ⟨e0, e1, e2, e3, e4, e5, e6, e7, e8, e9⟩ := cells10 BA6.out
  obtain ⟨v0, v1, v2, v3, v4, v5, v6, v7, v8, v9⟩ := cells10 BB6.out
  go_wp2_with fail
  refine (day_any B sb 2024 5 10 _ CB6.out).mono ?_
  rintro e x7 ⟨rfl, k7⟩
  rw [b2]
  clear e0 e1 e2 e3 e4 e5 e6 e7 e8 e9 v0 v1 v2 v3 v4 v5 v6 v7 v8 v9
  have BA7 := Lib.hid (BA6.out.kept k7); have CA7 := Lib.hid (CA6.out.kept k7); have BB7 := Lib.hid (BB6.out.kept k7); have CB7 := Lib.hid (CB6.out.kept k7); have K7 := Lib.hid (K6.out.trans k7)
  clear k7 BA6 CA6 BB6 CB6 K6
  obtain ⟨e0, e1, e2, e3, e4, e5, e6, e7, e8, e9⟩ := cells10 BA7.out
  obtain ⟨v0, v1, v2, v3, v4, v5, v6, v7, v8, v9⟩ := cells10 BB7.out
  go_wp2_with fail
  refine (day_any B sb 2024 5 13 _ CB7.out).mono ?_
  rintro e x8 ⟨rfl, k8⟩
  rw [b3]
  clear e0 e1 e2 e3 e4 e5 e6 e7 e8 e9 v0 v1 v2 v3 v4 v5 v6 v7 v8 v9
  have BA8 := Lib.hid (BA7.out.kept k8); have CA8 := Lib.hid (CA7.out.kept k8); have BB8 := Lib.hid (BB7.out.kept k8); have CB8 := Lib.hid (CB7.out.kept k8); have K8 := Lib.hid (K7.out.trans k8)
  clear k8 BA7 CA7 BB7 CB7 K7
  obtain ⟨e0, e1, e2, e3, e4, e5, e6, e7, e8, e9⟩ := cells10 BA8.out
  obtain ⟨v0, v1, v2, v3, v4, v5, v6, v7, v8, v9⟩ := cells10 BB8.out
  go_wp2_with fail
  refine (day_any B sb 2024 5 14 _ CB8.out).mono ?_
  rintro e x9 ⟨rfl, k9⟩
  rw [b4]
  clear e0 e1 e2 e3 e4 e5 e6 e7 e8 e9 v0 v1 v2 v3 v4 v5 v6 v7 v8 v9
  have BA9 := Lib.hid (BA8.out.kept k9); have CA9 := Lib.hid (CA8.out.kept k9); have BB9 := Lib.hid (BB8.out.kept k9); have CB9 := Lib.hid (CB8.out.kept k9); have K9 := Lib.hid (K8.out.trans k9)
  clear k9 BA8 CA8 BB8 CB8 K8
  obtain ⟨e0, e1, e2, e3, e4, e5, e6, e7, e8, e9⟩ := cells10 BA9.out
  obtain ⟨v0, v1, v2, v3, v4, v5, v6, v7, v8, v9⟩ := cells10 BB9.out
  go_wp2
  go_ret
  exact ⟨rfl, K9.out⟩
end Go.Proofs.YtcmdjpgabkjbpaaGreatDoor
