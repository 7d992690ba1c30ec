/- The law ZoneBack, walked. -/
import Derived.Test.YtomnjdammfiadaaDoorZnAwake
namespace Go.Proofs.YtomnjdammfiadaaDoor
open Go.ChangeShapes Go.WideShapes Go.ChangeAt Go.RowKit
open Zn
theorem wt_len {z : Zo} (h : mayZ z = true) : (wt z).length ≤ 100 := by
  obtain ⟨std, off, has, dst, ahead, fr, to⟩ := z
  unfold mayZ at h
  simp only [Bool.and_eq_true] at h
  obtain ⟨⟨h1, h2⟩, h3⟩ := h
  obtain ⟨o1, o2⟩ := off_bd h2
  have l1 := nt_len h1
  have l2 := tt_len (n := -off) (by omega) (by omega)
  cases has with
  | false => unfold wt; simp only [Bool.false_eq_true, if_false, List.length_append]; omega
  | true =>
    simp only [if_true, Bool.and_eq_true] at h3
    obtain ⟨⟨⟨h4, h5⟩, h6⟩, h7⟩ := h3
    have l3 := nt_len h4
    have l4 := rt_len h6
    have l5 := rt_len h7
    have l6 : (wtA ⟨std, off, true, dst, ahead, fr, to⟩).length ≤ 10 := by
      unfold wtA; split
      · simp
      · rename_i hne
        have h8 : offB ahead = true := by simpa [hne] using h5
        obtain ⟨p1, p2⟩ := off_bd h8
        exact tt_len (by simp only; omega) (by simp only; omega)
    unfold wt; simp only [if_true, List.length_append]; omega
/-- a block that reads as a zone's cells -/
def Bz (b : Nat) (z : Zo) (x : World) : Prop := x.heap[b]? = some (.cells (zo15 z.std z.off z.has z.dst z.ahead z.fr.k z.fr.m z.fr.w z.fr.d z.fr.a z.to.k z.to.m z.to.w z.to.d z.to.a) 25)
theorem Bz.lt {b : Nat} {z : Zo} {x : World} (h : Bz b z x) : b < x.heap.size := (Array.getElem?_eq_some_iff.1 h).1
theorem Bz.kept {b : Nat} {z : Zo} {x x' : World} (h : Bz b z x) (k : Kept x x') : Bz b z x' := (k.block b h.lt).trans h
theorem Bz.cs {b : Nat} {z : Zo} {x : World} (h : Bz b z x) : Cs b z x :=
  ⟨cell_of h rfl, cell_of h rfl, cell_of h rfl, cell_of h rfl, cell_of h rfl, cell_of h rfl, cell_of h rfl, cell_of h rfl, cell_of h rfl, cell_of h rfl, cell_of h rfl, cell_of h rfl, cell_of h rfl, cell_of h rfl, cell_of h rfl⟩
theorem bz_new (w : World) (z : Zo) : Bz w.heap.size z (w.alloc (.cells (zo15 z.std z.off z.has z.dst z.ahead z.fr.k z.fr.m z.fr.w z.fr.d z.fr.a z.to.k z.to.m z.to.w z.to.d z.to.a) 25)) := new_block _ _
set_option maxRecDepth 100000 in
set_option maxHeartbeats 2000000 in
theorem back_out (z : Zo) (l : List UInt8) (w : World) (h : 100 < z.std.length ∨ 100 < z.dst.length ∨ 200 < l.length) (htab : Tab w) :
    Calls Tryd.prog 5 #[zoV z, .string ⟨l.toArray⟩] w fun e w' => e = .returned (.bool true) ∧ Kept w w' := by
  have HT := Lib.hid htab; clear htab
  have B0 := Lib.hid (bz_new w z)
  have KW := Lib.hid ((Kept.refl w).alloc (.cells (zo15 z.std z.off z.has z.dst z.ahead z.fr.k z.fr.m z.fr.w z.fr.d z.fr.a z.to.k z.to.m z.to.w z.to.d z.to.a) 25))
  go_enter Tryd.func5, Tryd.ntmps5
  go_upto_region 1 with (fail)
  generalize w.alloc (.cells (zo15 z.std z.off z.has z.dst z.ahead z.fr.k z.fr.m z.fr.w z.fr.d z.fr.a z.to.k z.to.m z.to.w z.to.d z.to.a) 25) = x at *
  go_wp2_with fail
  refine (awake_yes _ (KW.out.tab' HT.out)).mono ?_
  rintro e w1 ⟨rfl, k1⟩
  have B1 := (B0.out.kept k1).cs
  have c0 := B1.c0
  have c3 := B1.c3
  have KK := Lib.hid (KW.out.trans k1)
  clear k1 KW B0 B1
  rcases h with h | h | h
  · go_wp2
    go_ret
    exact ⟨rfl, KK.out⟩
  · by_cases h1 : 100 < z.std.length
    all_goals
      go_wp2
      go_ret
      exact ⟨rfl, KK.out⟩
  · by_cases h1 : 100 < z.std.length
    · go_wp2
      go_ret
      exact ⟨rfl, KK.out⟩
    · by_cases h2 : 100 < z.dst.length
      all_goals
        go_wp2
        go_ret
        exact ⟨rfl, KK.out⟩
set_option maxRecDepth 100000 in
set_option maxHeartbeats 4000000 in
theorem back_may (z : Zo) (l : List UInt8) (w : World) (h1 : z.std.length ≤ 100) (h2 : z.dst.length ≤ 100) (h3 : l.length ≤ 200) (hz : mayZ z = true) (htab : Tab w) :
    Calls Tryd.prog 5 #[zoV z, .string ⟨l.toArray⟩] w fun e w' => e = .returned (.bool true) ∧ Kept w w' := by
  have HT := Lib.hid htab; clear htab
  have HZ := Lib.hid hz; clear hz
  have B0 := Lib.hid (bz_new w z)
  have KW := Lib.hid ((Kept.refl w).alloc (.cells (zo15 z.std z.off z.has z.dst z.ahead z.fr.k z.fr.m z.fr.w z.fr.d z.fr.a z.to.k z.to.m z.to.w z.to.d z.to.a) 25))
  have hE0 : ∀ W, (binOp .eql 25 (.agg #[.string ⟨#[]⟩, .int .i64 0, .bool false, .string ⟨#[]⟩, .int .i64 0, .int .i64 0, .int .i64 0, .int .i64 0, .int .i64 0, .int .i64 0, .int .i64 0, .int .i64 0, .int .i64 0, .int .i64 0, .int .i64 0]) (.agg #[.string ⟨#[]⟩, .int .i64 0, .bool false, .string ⟨#[]⟩, .int .i64 0, .int .i64 0, .int .i64 0, .int .i64 0, .int .i64 0, .int .i64 0, .int .i64 0, .int .i64 0, .int .i64 0, .int .i64 0, .int .i64 0])).run Tryd.prog W = .ok (.bool true) W := fun W => (eql_zone zo0 zo0 W).trans (by rw [zoE_refl])
  have hN : ∀ W, (binOp .neq 25 (.agg (zo15 z.std z.off z.has z.dst z.ahead z.fr.k z.fr.m z.fr.w z.fr.d z.fr.a z.to.k z.to.m z.to.w z.to.d z.to.a)) (.agg (zo15 z.std z.off z.has z.dst z.ahead z.fr.k z.fr.m z.fr.w z.fr.d z.fr.a z.to.k z.to.m z.to.w z.to.d z.to.a))).run Tryd.prog W = .ok (.bool false) W := fun W => (neq_zone z z W).trans (by rw [zoE_refl]; rfl)
  have hwl := wt_len HZ.out
  go_enter Tryd.func5, Tryd.ntmps5
  go_upto_region 1 with (fail)
  generalize w.alloc (.cells (zo15 z.std z.off z.has z.dst z.ahead z.fr.k z.fr.m z.fr.w z.fr.d z.fr.a z.to.k z.to.m z.to.w z.to.d z.to.a) 25) = x at *
  go_wp2_with fail
  refine (awake_yes _ (KW.out.tab' HT.out)).mono ?_
  rintro e w1 ⟨rfl, k1⟩
  have B1 := Lib.hid (B0.out.kept k1)
  have c0 := B1.out.cs.c0
  have c3 := B1.out.cs.c3
  have K1 := Lib.hid (KW.out.trans k1)
  clear k1 KW B0
  go_wp2_with (refine wpList_load_row rfl 25 _ rfl w.heap.size rfl 25 _ (0, 0) _ B1.out Tryd.underlying25 rfl (by kernel_rfl) ?_)
  clear c0 c3
  refine (write_yes z _ HZ.out (K1.out.tab' HT.out)).mono ?_
  rintro e w2 ⟨rfl, k2⟩
  have K2 := Lib.hid (K1.out.trans k2)
  have B2 := Lib.hid (B1.out.kept k2)
  clear K1 B1 k2
  go_wp2_with fail
  refine (parse_any (wt z) _ hwl (K2.out.tab' HT.out)).mono ?_
  intro e w3 hp
  rw [prs_wt HZ.out] at hp
  obtain ⟨rfl, k3⟩ := hp
  have N3 := Lib.hid (bz_new w3 z)
  have K3 := Lib.hid ((K2.out.trans k3).alloc (.cells (zo15 z.std z.off z.has z.dst z.ahead z.fr.k z.fr.m z.fr.w z.fr.d z.fr.a z.to.k z.to.m z.to.w z.to.d z.to.a) 25))
  have B3 := Lib.hid ((B2.out.kept k3).kept ((Kept.refl w3).alloc (.cells (zo15 z.std z.off z.has z.dst z.ahead z.fr.k z.fr.m z.fr.w z.fr.d z.fr.a z.to.k z.to.m z.to.w z.to.d z.to.a) 25)))
  clear K2 B2 k3
  go_upto_region 7 with (fail)
  generalize w3.alloc (.cells (zo15 z.std z.off z.has z.dst z.ahead z.fr.k z.fr.m z.fr.w z.fr.d z.fr.a z.to.k z.to.m z.to.w z.to.d z.to.a) 25) = x3 at *
  generalize w3.heap.size = bx at *
  have c0 := N3.out.cs.c0
  have d0 := B3.out.cs.c0
  have c1 := N3.out.cs.c1
  have d1 := B3.out.cs.c1
  have c2 := N3.out.cs.c2
  have d2 := B3.out.cs.c2
  have c3 := N3.out.cs.c3
  have d3 := B3.out.cs.c3
  have c4 := N3.out.cs.c4
  have d4 := B3.out.cs.c4
  have c5 := N3.out.cs.c5
  have d5 := B3.out.cs.c5
  have c6 := N3.out.cs.c6
  have d6 := B3.out.cs.c6
  have c7 := N3.out.cs.c7
  have d7 := B3.out.cs.c7
  have c8 := N3.out.cs.c8
  have d8 := B3.out.cs.c8
  have c9 := N3.out.cs.c9
  have d9 := B3.out.cs.c9
  have c10 := N3.out.cs.c10
  have d10 := B3.out.cs.c10
  have c11 := N3.out.cs.c11
  have d11 := B3.out.cs.c11
  have c12 := N3.out.cs.c12
  have d12 := B3.out.cs.c12
  have c13 := N3.out.cs.c13
  have d13 := B3.out.cs.c13
  have c14 := N3.out.cs.c14
  have d14 := B3.out.cs.c14
  go_wp2_with fail
  clear c0 d0 c1 d1 c2 d2 c3 d3 c4 d4 c5 d5 c6 d6 c7 d7 c8 d8 c9 d9 c10 d10 c11 d11 c12 d12 c13 d13 c14 d14 hN hwl N3 B3
  by_cases ho : 100 < l.length
  · refine (parse_over l _ ho).mono ?_
    rintro e w4 ⟨rfl, k4⟩
    have N4 := Lib.hid (bz_new w4 zo0)
    have K4 := Lib.hid ((K3.out.trans k4).alloc (.cells (zo15 [] 0 false [] 0 0 0 0 0 0 0 0 0 0 0) 25))
    clear K3 k4
    simp only [zo0, ru0] at N4 ⊢
    go_upto_region 10 with (fail)
    generalize w4.alloc (.cells (zo15 [] 0 false [] 0 0 0 0 0 0 0 0 0 0 0) 25) = x4 at *
    generalize w4.heap.size = by4 at *
    go_wp2_with (refine wpList_load_row rfl 25 _ rfl by4 rfl 25 _ (0, 0) _ N4.out Tryd.underlying25 rfl (by kernel_rfl) ?_)
    go_ret
    exact ⟨ret_bool (by simp; omega), K4.out⟩
  · refine (parse_any l _ (by omega) (K3.out.tab' HT.out)).mono ?_
    intro e w4 hp
    rcases hr : prs l with _ | q
    · rw [hr] at hp
      obtain ⟨rfl, k4⟩ := hp
      clear hr
      have N4 := Lib.hid (bz_new w4 zo0)
      have K4 := Lib.hid ((K3.out.trans k4).alloc (.cells (zo15 [] 0 false [] 0 0 0 0 0 0 0 0 0 0 0) 25))
      clear K3 k4
      simp only [zo0, ru0] at N4 ⊢
      go_upto_region 10 with (fail)
      generalize w4.alloc (.cells (zo15 [] 0 false [] 0 0 0 0 0 0 0 0 0 0 0) 25) = x4 at *
      generalize w4.heap.size = by4 at *
      go_wp2_with (refine wpList_load_row rfl 25 _ rfl by4 rfl 25 _ (0, 0) _ N4.out Tryd.underlying25 rfl (by kernel_rfl) ?_)
      go_ret
      exact ⟨rfl, K4.out⟩
    · rw [hr] at hp
      obtain ⟨rfl, k4⟩ := hp
      have HR := Lib.hid (prs_some hr); clear hr
      have N4 := Lib.hid (bz_new w4 q)
      have K4 := Lib.hid ((K3.out.trans k4).alloc (.cells (zo15 q.std q.off q.has q.dst q.ahead q.fr.k q.fr.m q.fr.w q.fr.d q.fr.a q.to.k q.to.m q.to.w q.to.d q.to.a) 25))
      clear K3 k4
      go_upto_region 10 with (fail)
      generalize w4.alloc (.cells (zo15 q.std q.off q.has q.dst q.ahead q.fr.k q.fr.m q.fr.w q.fr.d q.fr.a q.to.k q.to.m q.to.w q.to.d q.to.a) 25) = x4 at *
      generalize w4.heap.size = by4 at *
      go_wp2_with (refine wpList_load_row rfl 25 _ rfl by4 rfl 25 _ (0, 0) _ N4.out Tryd.underlying25 rfl (by kernel_rfl) ?_)
      refine (write_yes q _ HR.out.1 (K4.out.tab' HT.out)).mono ?_
      rintro e w5 ⟨rfl, k5⟩
      rw [HR.out.2]
      have K5 := Lib.hid (K4.out.trans k5)
      have B5 := Lib.hid (N4.out.kept k5)
      clear k5 K4 N4
      have c0 := B5.out.cs.c0
      have c1 := B5.out.cs.c1
      have c2 := B5.out.cs.c2
      have c3 := B5.out.cs.c3
      have c4 := B5.out.cs.c4
      have c5 := B5.out.cs.c5
      have c6 := B5.out.cs.c6
      have c7 := B5.out.cs.c7
      have c8 := B5.out.cs.c8
      have c9 := B5.out.cs.c9
      have c10 := B5.out.cs.c10
      have c11 := B5.out.cs.c11
      have c12 := B5.out.cs.c12
      have c13 := B5.out.cs.c13
      have c14 := B5.out.cs.c14
      go_wp2_with fail
      refine (may_any q _).mono ?_
      rintro e w6 ⟨rfl, k6⟩
      clear c0 c1 c2 c3 c4 c5 c6 c7 c8 c9 c10 c11 c12 c13 c14 B5
      go_wp2
      go_ret
      exact ⟨ret_bool HR.out.1, K5.out.trans k6⟩
set_option maxRecDepth 100000 in
set_option maxHeartbeats 4000000 in
theorem back_not (z : Zo) (l : List UInt8) (w : World) (h1 : z.std.length ≤ 100) (h2 : z.dst.length ≤ 100) (h3 : l.length ≤ 200) (hz : mayZ z = false) (htab : Tab w) :
    Calls Tryd.prog 5 #[zoV z, .string ⟨l.toArray⟩] w fun e w' => e = .returned (.bool true) ∧ Kept w w' := by
  have HT := Lib.hid htab; clear htab
  have HZ := Lib.hid hz; clear hz
  have B0 := Lib.hid (bz_new w z)
  have KW := Lib.hid ((Kept.refl w).alloc (.cells (zo15 z.std z.off z.has z.dst z.ahead z.fr.k z.fr.m z.fr.w z.fr.d z.fr.a z.to.k z.to.m z.to.w z.to.d z.to.a) 25))
  have hE0 : ∀ W, (binOp .eql 25 (.agg #[.string ⟨#[]⟩, .int .i64 0, .bool false, .string ⟨#[]⟩, .int .i64 0, .int .i64 0, .int .i64 0, .int .i64 0, .int .i64 0, .int .i64 0, .int .i64 0, .int .i64 0, .int .i64 0, .int .i64 0, .int .i64 0]) (.agg #[.string ⟨#[]⟩, .int .i64 0, .bool false, .string ⟨#[]⟩, .int .i64 0, .int .i64 0, .int .i64 0, .int .i64 0, .int .i64 0, .int .i64 0, .int .i64 0, .int .i64 0, .int .i64 0, .int .i64 0, .int .i64 0])).run Tryd.prog W = .ok (.bool true) W := fun W => (eql_zone zo0 zo0 W).trans (by rw [zoE_refl])
  go_enter Tryd.func5, Tryd.ntmps5
  go_upto_region 1 with (fail)
  generalize w.alloc (.cells (zo15 z.std z.off z.has z.dst z.ahead z.fr.k z.fr.m z.fr.w z.fr.d z.fr.a z.to.k z.to.m z.to.w z.to.d z.to.a) 25) = x at *
  go_wp2_with fail
  refine (awake_yes _ (KW.out.tab' HT.out)).mono ?_
  rintro e w1 ⟨rfl, k1⟩
  have B1 := Lib.hid (B0.out.kept k1)
  have c0 := B1.out.cs.c0
  have c3 := B1.out.cs.c3
  have K1 := Lib.hid (KW.out.trans k1)
  clear k1 KW B0
  go_wp2_with (refine wpList_load_row rfl 25 _ rfl w.heap.size rfl 25 _ (0, 0) _ B1.out Tryd.underlying25 rfl (by kernel_rfl) ?_)
  clear c0 c3
  refine (write_not z _ HZ.out).mono ?_
  rintro e x3 ⟨rfl, k2⟩
  have K3 := Lib.hid (K1.out.trans k2)
  clear K1 B1 k2
  go_wp2_with fail
  by_cases ho : 100 < l.length
  · refine (parse_over l _ ho).mono ?_
    rintro e w4 ⟨rfl, k4⟩
    have N4 := Lib.hid (bz_new w4 zo0)
    have K4 := Lib.hid ((K3.out.trans k4).alloc (.cells (zo15 [] 0 false [] 0 0 0 0 0 0 0 0 0 0 0) 25))
    clear K3 k4
    simp only [zo0, ru0] at N4 ⊢
    go_upto_region 10 with (fail)
    generalize w4.alloc (.cells (zo15 [] 0 false [] 0 0 0 0 0 0 0 0 0 0 0) 25) = x4 at *
    generalize w4.heap.size = by4 at *
    go_wp2_with (refine wpList_load_row rfl 25 _ rfl by4 rfl 25 _ (0, 0) _ N4.out Tryd.underlying25 rfl (by kernel_rfl) ?_)
    go_ret
    exact ⟨ret_bool (by simp; omega), K4.out⟩
  · refine (parse_any l _ (by omega) (K3.out.tab' HT.out)).mono ?_
    intro e w4 hp
    rcases hr : prs l with _ | q
    · rw [hr] at hp
      obtain ⟨rfl, k4⟩ := hp
      clear hr
      have N4 := Lib.hid (bz_new w4 zo0)
      have K4 := Lib.hid ((K3.out.trans k4).alloc (.cells (zo15 [] 0 false [] 0 0 0 0 0 0 0 0 0 0 0) 25))
      clear K3 k4
      simp only [zo0, ru0] at N4 ⊢
      go_upto_region 10 with (fail)
      generalize w4.alloc (.cells (zo15 [] 0 false [] 0 0 0 0 0 0 0 0 0 0 0) 25) = x4 at *
      generalize w4.heap.size = by4 at *
      go_wp2_with (refine wpList_load_row rfl 25 _ rfl by4 rfl 25 _ (0, 0) _ N4.out Tryd.underlying25 rfl (by kernel_rfl) ?_)
      go_ret
      exact ⟨rfl, K4.out⟩
    · rw [hr] at hp
      obtain ⟨rfl, k4⟩ := hp
      have HR := Lib.hid (prs_some hr); clear hr
      have N4 := Lib.hid (bz_new w4 q)
      have K4 := Lib.hid ((K3.out.trans k4).alloc (.cells (zo15 q.std q.off q.has q.dst q.ahead q.fr.k q.fr.m q.fr.w q.fr.d q.fr.a q.to.k q.to.m q.to.w q.to.d q.to.a) 25))
      clear K3 k4
      go_upto_region 10 with (fail)
      generalize w4.alloc (.cells (zo15 q.std q.off q.has q.dst q.ahead q.fr.k q.fr.m q.fr.w q.fr.d q.fr.a q.to.k q.to.m q.to.w q.to.d q.to.a) 25) = x4 at *
      generalize w4.heap.size = by4 at *
      go_wp2_with (refine wpList_load_row rfl 25 _ rfl by4 rfl 25 _ (0, 0) _ N4.out Tryd.underlying25 rfl (by kernel_rfl) ?_)
      refine (write_yes q _ HR.out.1 (K4.out.tab' HT.out)).mono ?_
      rintro e w5 ⟨rfl, k5⟩
      rw [HR.out.2]
      have K5 := Lib.hid (K4.out.trans k5)
      have B5 := Lib.hid (N4.out.kept k5)
      clear k5 K4 N4
      have c0 := B5.out.cs.c0
      have c1 := B5.out.cs.c1
      have c2 := B5.out.cs.c2
      have c3 := B5.out.cs.c3
      have c4 := B5.out.cs.c4
      have c5 := B5.out.cs.c5
      have c6 := B5.out.cs.c6
      have c7 := B5.out.cs.c7
      have c8 := B5.out.cs.c8
      have c9 := B5.out.cs.c9
      have c10 := B5.out.cs.c10
      have c11 := B5.out.cs.c11
      have c12 := B5.out.cs.c12
      have c13 := B5.out.cs.c13
      have c14 := B5.out.cs.c14
      go_wp2_with fail
      refine (may_any q _).mono ?_
      rintro e w6 ⟨rfl, k6⟩
      clear c0 c1 c2 c3 c4 c5 c6 c7 c8 c9 c10 c11 c12 c13 c14 B5
      go_wp2
      go_ret
      exact ⟨ret_bool HR.out.1, K5.out.trans k6⟩
theorem walkBack (z : Zo) (l : List UInt8) (w : World) (htab : Tab w) :
    Calls Tryd.prog 5 #[zoV z, .string ⟨l.toArray⟩] w fun e w' => e = .returned (.bool true) ∧ Kept w w' := by
  by_cases h : 100 < z.std.length ∨ 100 < z.dst.length ∨ 200 < l.length
  · exact back_out z l w h htab
  · cases hz : mayZ z with
    | true => exact back_may z l w (by omega) (by omega) (by omega) hz htab
    | false => exact back_not z l w (by omega) (by omega) (by omega) hz htab
end Go.Proofs.YtomnjdammfiadaaDoor
