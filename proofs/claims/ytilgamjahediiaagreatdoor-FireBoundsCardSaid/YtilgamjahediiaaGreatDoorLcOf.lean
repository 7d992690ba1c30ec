/- Contracts of package local: the seconds of a day and time. -/
import Derived.Test.YtilgamjahediiaaGreatDoorLcT
import Derived.Great.BuildSlice
import Derived.Maps.AppendAt
import Derived.BigCall
namespace Go.Proofs.YtilgamjahediiaaGreatDoor
open Go.ChangeShapes Go.WideShapes Go.ChangeAt Go.RowKit
open Civ Zn Lc
def offsL (z : Zo) : List Int := if z.has = true ∧ z.ahead ≠ z.off then [max z.off z.ahead, min z.off z.ahead] else [z.off]
/-- a slice of integers: all of a block of its own -/
def Sl (g : Nat) (l : List Int) (x : World) : Prop := x.heap[g]? = some (.cells (l.map fun n => Value.int .i64 n).toArray 3)
def OffsPost (z : Zo) (w : World) (e : Ending) (w' : World) : Prop := ∃ g : Nat, e = .returned (.slice (some ⟨g, 0, none⟩) (offsL z).length (offsL z).length) ∧ Sl g (offsL z) w' ∧ Kept w w'
set_option maxRecDepth 100000 in
set_option maxHeartbeats 2000000 in
theorem offs_any (z : Zo) (w : World) : Calls Tryz.prog 41 #[zoV z] w (OffsPost z w) := by
  have B0 := Lib.hid (bz_new w z)
  have K0 := Lib.hid ((Kept.refl w).alloc (.cells (zo15 z.std z.off z.has z.dst z.ahead z.fr.k z.fr.m z.fr.w z.fr.d z.fr.a z.to.k z.to.m z.to.w z.to.d z.to.a) 25))
  by_cases hh : z.has = true
  · by_cases he : z.ahead = z.off
    · have HL := Lib.hid (show offsL z = [z.off] by unfold offsL; rw [if_neg (by simp [he])])
      have HH := Lib.hid hh; have HE := Lib.hid he; clear hh he
      go_enter Tryz.func41, Tryz.ntmps41
      go_upto_region 1 with (fail)
      generalize w.alloc (.cells (zo15 z.std z.off z.has z.dst z.ahead z.fr.k z.fr.m z.fr.w z.fr.d z.fr.a z.to.k z.to.m z.to.w z.to.d z.to.a) 25) = x at *
      have c1 := B0.out.cs.c1
      have c2 := B0.out.cs.c2
      have c4 := B0.out.cs.c4
      rw [HH.out] at c2
      rw [HE.out] at c4
      go_wp2
      go_ret
      refine ⟨x.heap.size, ?_, ?_, K0.out.alloc _⟩
      · rw [HL.out]; rfl
      · rw [HL.out]; exact new_block x _
    · have HL := Lib.hid (show offsL z = [max z.off z.ahead, min z.off z.ahead] by unfold offsL; rw [if_pos ⟨hh, he⟩])
      have HH := Lib.hid hh; clear hh
      go_enter Tryz.func41, Tryz.ntmps41
      go_upto_region 1 with (fail)
      generalize w.alloc (.cells (zo15 z.std z.off z.has z.dst z.ahead z.fr.k z.fr.m z.fr.w z.fr.d z.fr.a z.to.k z.to.m z.to.w z.to.d z.to.a) 25) = x at *
      have c1 := B0.out.cs.c1
      have c2 := B0.out.cs.c2
      have c4 := B0.out.cs.c4
      rw [HH.out] at c2
      go_wp2
      go_ret
      refine ⟨x.heap.size, ?_, ?_, K0.out.alloc _⟩
      · rw [HL.out]; rfl
      · rw [HL.out]; exact new_block x _
  · have HL := Lib.hid (show offsL z = [z.off] by unfold offsL; rw [if_neg (by simp [hh])])
    have HH := Lib.hid (show z.has = false by simpa using hh); clear hh
    go_enter Tryz.func41, Tryz.ntmps41
    go_upto_region 1 with (fail)
    generalize w.alloc (.cells (zo15 z.std z.off z.has z.dst z.ahead z.fr.k z.fr.m z.fr.w z.fr.d z.fr.a z.to.k z.to.m z.to.w z.to.d z.to.a) 25) = x at *
    have c1 := B0.out.cs.c1
    have c2 := B0.out.cs.c2
    rw [HH.out] at c2
    go_wp2
    go_ret
    refine ⟨x.heap.size, ?_, ?_, K0.out.alloc _⟩
    · rw [HL.out]; rfl
    · rw [HL.out]; exact new_block x _
/-- the seconds: those that are ahead by the one time, or the other, there -/
noncomputable def pick (z : Zo) (n o : Int) : List Int := if scB (n - o) = true ∧ offP z (n - o) = o then [n - o] else []
noncomputable def ofL (z : Zo) (n : Int) : List Int := (offsL z).flatMap (pick z n)
theorem offsL_bd {z : Zo} (hz : mayZ z = true) : ∀ o ∈ offsL z, -89999 ≤ o ∧ o ≤ 93599 := by
  have a := may_off hz
  unfold offsL
  split
  · rename_i hh
    have b := may_T hz hh.1
    intro o ho
    simp at ho
    rcases ho with rfl | rfl <;> omega
  · intro o ho
    simp at ho
    subst ho
    omega
theorem sec_bd {y m d h i s : Int} (k : okP y m d) (kt : tmB h i s = true) : -62135596800 ≤ sec y m d h i s ∧ sec y m d h i s ≤ 253402300799 := by
  have a := ord_bd k; have b := tm_bd kt
  unfold sec; omega
/-- a day and time in a block of its own -/
def Bc (b : Nat) (y m d h i s : Int) (x : World) : Prop := x.heap[b]? = some (.cells #[.int .i64 y, .int .i64 m, .int .i64 d, .int .i64 h, .int .i64 i, .int .i64 s] 34)
theorem Bc.lt {b : Nat} {y m d h i s : Int} {x : World} (H : Bc b y m d h i s x) : b < x.heap.size := (Array.getElem?_eq_some_iff.1 H).1
theorem Bc.kept {b : Nat} {y m d h i s : Int} {x x' : World} (H : Bc b y m d h i s x) (k : Kept x x') : Bc b y m d h i s x' := (k.block b H.lt).trans H
theorem Sl.lt {g : Nat} {l : List Int} {x : World} (h : Sl g l x) : g < x.heap.size := (Array.getElem?_eq_some_iff.1 h).1
theorem Sl.kept {g : Nat} {l : List Int} {x x' : World} (h : Sl g l x) (k : Kept x x') : Sl g l x' := (k.block g h.lt).trans h
theorem Sl.at {g : Nat} {l : List Int} {x : World} (h : Sl g l x) {k : Nat} {n : Int} (hk : l[k]? = some n) : x.cell? ⟨g, k, none⟩ = some (.int .i64 n) := by
  unfold Sl at h
  simp [World.cell?, h, hk]
/-- the seconds, in a slice that has grown since a world -/
def Out (B : Nat) (v : Value) (l : List Int) (x : World) : Prop := x.ownsRow B 3 1 v l.length (l.map fun n => Value.int .i64 n)
def OfPost (l : List Int) (w : World) (e : Ending) (w' : World) : Prop := ∃ v, e = .returned (.tuple #[v, .int .i64 0]) ∧ Out w.heap.size v l w' ∧ Kept w w'
noncomputable def part (z : Zo) (n : Int) (k : Nat) : List Int := ((offsL z).take k).flatMap (pick z n)
theorem part_succ {z : Zo} {n : Int} {k : Nat} {o : Int} (h : (offsL z)[k]? = some o) : part z n (k + 1) = part z n k ++ pick z n o := by
  unfold part
  rw [List.take_add_one, h]
  simp
theorem part_all (z : Zo) (n : Int) : part z n (offsL z).length = ofL z n := by unfold part ofL; rw [List.take_length]
theorem pick_len (z : Zo) (n o : Int) : (pick z n o).length ≤ 1 := by unfold pick; split <;> simp
theorem offs_len (z : Zo) : (offsL z).length ≤ 2 := by unfold offsL; split <;> simp
theorem part_len (z : Zo) (n : Int) (k : Nat) (hk : k ≤ (offsL z).length) : (part z n k).length ≤ k := by
  induction k with
  | zero => simp [part]
  | succ k ih =>
    obtain ⟨o, ho⟩ : ∃ o, (offsL z)[k]? = some o := ⟨_, List.getElem?_eq_getElem (by omega)⟩
    rw [part_succ ho, List.length_append]
    have := pick_len z n o; have := ih (by omega)
    omega
def OfIn (z : Zo) (n : Int) (W : World) (a b : Value) (x : World) : Prop := ∃ (k : Nat) (ao : Option Addr) (cap : Nat), k ≤ (offsL z).length ∧ b = .int .i64 k ∧ a = .slice ao (part z n k).length cap ∧ Out W.heap.size a (part z n k) x ∧ Kept W x
set_option maxRecDepth 100000 in
set_option maxHeartbeats 4000000 in
theorem lof_yes (z : Zo) (y m d h i s : Int) (w : World) (hz : mayZ z = true) (k : okP y m d) (kt : tmB h i s = true) (y1 : 1970 ≤ y) (y2 : y ≤ 9998) :
    Calls Tryz.prog 18 #[zoV z, civ y m d h i s] w (OfPost (ofL z (sec y m d h i s)) w) := by
  have sb := sec_bd k kt
  have ob := Lib.hid (offsL_bd hz)
  have HZ := Lib.hid hz
  have K := Lib.hid k; have KT := Lib.hid kt
  clear hz k kt
  obtain ⟨i0, hi, hz0, hz1, hz2⟩ := info_parts (show (Tryz.prog.info? 3).map (fun i => (i.zero, i.size, i.bytes)) = some (some (.int .i64 0), 1, 8) by kernel_rfl)
  have B0 := Lib.hid (bz_new w z)
  have K0 := Lib.hid ((Kept.refl w).alloc (.cells (zo15 z.std z.off z.has z.dst z.ahead z.fr.k z.fr.m z.fr.w z.fr.d z.fr.a z.to.k z.to.m z.to.w z.to.d z.to.a) 25))
  go_enter Tryz.func18, Tryz.ntmps18
  go_upto_region 1 with (fail)
  generalize hx : w.alloc (.cells (zo15 z.std z.off z.has z.dst z.ahead z.fr.k z.fr.m z.fr.w z.fr.d z.fr.a z.to.k z.to.m z.to.w z.to.d z.to.a) 25) = x at *
  have s1 : x.heap.size = w.heap.size + 1 := by rw [← hx]; simp
  clear hx
  have b1 : Bc x.heap.size y m d h i s (x.alloc (.cells #[.int .i64 y, .int .i64 m, .int .i64 d, .int .i64 h, .int .i64 i, .int .i64 s] 34)) := new_block x _
  have k1 := (Kept.refl x).alloc (.cells #[.int .i64 y, .int .i64 m, .int .i64 d, .int .i64 h, .int .i64 i, .int .i64 s] 34)
  rw [s1] at b1
  generalize x.alloc (.cells #[.int .i64 y, .int .i64 m, .int .i64 d, .int .i64 h, .int .i64 i, .int .i64 s] 34) = x1 at *
  have B1 := Lib.hid (B0.out.kept k1)
  have C1 := Lib.hid b1
  have K1 := Lib.hid (K0.out.trans k1)
  clear B0 K0 k1 b1
  have e0 := cell_of C1.out (j := 0) rfl
  have e1 := cell_of C1.out (j := 1) rfl
  have e2 := cell_of C1.out (j := 2) rfl
  have e3 := cell_of C1.out (j := 3) rfl
  have e4 := cell_of C1.out (j := 4) rfl
  have e5 := cell_of C1.out (j := 5) rfl
  go_wp2_with fail
  refine (of_yes y m d h i s _ K.out KT.out).mono ?_
  rintro e w2 ⟨rfl, k2⟩
  generalize sec y m d h i s = n at *
  have B2 := Lib.hid (B1.out.kept k2)
  have C2 := Lib.hid (C1.out.kept k2)
  have K2 := Lib.hid (K1.out.trans k2)
  clear e0 e1 e2 e3 e4 e5 B1 C1 K1 k2
  go_wp2_with (refine wpList_load_row rfl 25 _ rfl w.heap.size rfl 25 _ (0, 0) _ B2.out Tryz.underlying25 rfl (by kernel_rfl) ?_)
  refine (zMay_any z _).mono ?_
  rintro e w3 ⟨rfl, k3⟩
  rw [HZ.out]
  have B3 := Lib.hid (B2.out.kept k3)
  have C3 := Lib.hid (C2.out.kept k3)
  have K3 := Lib.hid (K2.out.trans k3)
  clear B2 C2 K2 k3
  have e0 := cell_of C3.out (j := 0) rfl
  go_wp2_with (refine wpList_load_row rfl 25 _ rfl w.heap.size rfl 25 _ (0, 0) _ B3.out Tryz.underlying25 rfl (by kernel_rfl) ?_)
  refine (offs_any z _).mono ?_
  rintro e W ⟨g, rfl, sl, k4⟩
  have B4 := Lib.hid (B3.out.kept k4)
  have S4 := Lib.hid sl
  have K4 := Lib.hid (K3.out.trans k4)
  clear e0 B3 C3 K3 k4 sl
  go_wp2_with fail
  have hL := offs_len z
  go_loopw [8, 37] (fun a b y => OfIn z n W a b y) (fun _ b _ => (offsL z).length - (intOf b).toNat)
  case atStart => exact ⟨0, none, 0, Nat.zero_le _, rfl, rfl, World.ownsRow_nil _ _ _ _, Kept.refl _⟩
  case round =>
    obtain ⟨k, ao, cap, hk, rfl, rfl, hown, hkp⟩ := hrel
    have hpl := part_len z n k hk
    by_cases hlt : k < (offsL z).length
    · obtain ⟨o, ho⟩ : ∃ o, (offsL z)[k]? = some o := ⟨_, List.getElem?_eq_getElem hlt⟩
      have hob := ob.out o (List.mem_of_getElem? ho)
      have PS := Lib.hid (part_succ (n := n) ho)
      have Br := Lib.hid (B4.out.kept hkp)
      have co := (S4.out.kept hkp).at ho
      clear ho
      generalize part z n k = l at *
      have Own := Lib.hid hown
      have KP := Lib.hid hkp
      clear hown hkp
      go_wp2_with fail
      refine (isSecond_any _ _).mono ?_
      rintro e w5 ⟨rfl, rfl⟩
      cases hs : scB (n - o) with
      | false =>
        have PN := Lib.hid (show part z n (k + 1) = l by rw [PS.out]; unfold pick; rw [if_neg (by simp [hs])]; simp)
        clear hs
        go_wp2
        go_roundw
        case rel => exact ⟨k + 1, ao, cap, hlt, by go_num, by rw [PN.out], by rw [PN.out]; exact Own.out, KP.out⟩
        case measure => simp [intOf]; omega
      | true =>
        have HS := Lib.hid hs
        have c0 := Br.out.cs.c0
        have c1 := Br.out.cs.c1
        have c2 := Br.out.cs.c2
        have c3 := Br.out.cs.c3
        have c4 := Br.out.cs.c4
        have c5 := Br.out.cs.c5
        have c6 := Br.out.cs.c6
        have c7 := Br.out.cs.c7
        have c8 := Br.out.cs.c8
        have c9 := Br.out.cs.c9
        have c10 := Br.out.cs.c10
        have c11 := Br.out.cs.c11
        have c12 := Br.out.cs.c12
        have c13 := Br.out.cs.c13
        have c14 := Br.out.cs.c14
        go_wp2_with fail
        clear c0 c1 c2 c3 c4 c5 c6 c7 c8 c9 c10 c11 c12 c13 c14
        refine (offAt_any z (n - o) _ HZ.out HS.out).mono ?_
        rintro e w6 ⟨rfl, k6⟩
        by_cases hp : offP z (n - o) = o
        · have PN := Lib.hid (show part z n (k + 1) = l ++ [n - o] by rw [PS.out]; unfold pick; rw [if_pos ⟨hs, hp⟩])
          rw [hp]
          go_wp2_with (at_builtin; refine wpList_append_own _ rfl _ _ 26 rfl W.heap.size 3 i0 (.int .i64 0) 1 8 Tryz.underlying26 hi hz0 hz1 hz2 rfl (by decide) _ _ _ rfl ((Own.out.kept (k6.grownBy none) (by cases ao <;> simp [Value.ownBlock])).alloc _) ⟨w6.heap.size, 0, none⟩ 1 1 [.int .i64 (n - o)] rfl rfl (cell_one_new _ _ _) (fun x hx => by simp at hx; subst hx; rfl) (by unfold maxLen; omega) (by omega) (by have := KP.out.size; have := k6.size; simp; omega) ?_; intro v' w7 hown' hgrow hnil)
          go_roundw
          case rel =>
            obtain ⟨g3, cap3, hv3⟩ : ∃ g3 cap3, v' = .slice (some ⟨g3, 0, none⟩) (l.length + 1) cap3 := by
              rcases hown'.2 with ⟨_, hx⟩ | ⟨g3, cap3, _, hx, _⟩
              · omega
              · exact ⟨g3, cap3, hx⟩
            have kk : Kept W w7 := ⟨hgrow.os.trans (k6.os.trans KP.out.os), hgrow.output.trans (k6.output.trans KP.out.output), by have := KP.out.size; have := k6.size; have := hgrow.size; simp at this; omega, fun j hj => by
              have q1 := KP.out.size; have q2 := k6.size
              have q3 := Own.out.lt
              rw [hgrow.block j (by simp; omega) (fun e => by have := q3 j (e.symm); omega), Below.heap_alloc _ _ _ (by omega), k6.block j (by omega), KP.out.block j hj], hgrow.tape.trans (k6.tape.trans KP.out.tape)⟩
            exact ⟨k + 1, some ⟨g3, 0, none⟩, cap3, hlt, by go_num, by rw [hv3, PN.out]; simp, by rw [PN.out]; unfold Out; rw [List.map_append, List.length_append]; exact hown', kk⟩
          case measure => simp [intOf]; omega
        · have PN := Lib.hid (show part z n (k + 1) = l by rw [PS.out]; unfold pick; rw [if_neg (by simp [hp])]; simp)
          generalize offP z (n - o) = q at *
          go_wp2
          go_roundw
          case rel => exact ⟨k + 1, ao, cap, hlt, by go_num, by rw [PN.out], by rw [PN.out]; exact Own.out.kept (k6.grownBy none) (by cases ao <;> simp [Value.ownBlock]), KP.out.trans k6⟩
          case measure => simp [intOf]; omega
    · obtain rfl : k = (offsL z).length := by omega
      rw [part_all] at *
      have kl := K4.out.size
      go_wp2
      refine bodyPost_ret (v := .tuple #[.slice ao (ofL z n).length cap, .int .i64 0]) (by simp [results, Tryz.results18, go_sem, *]) rfl ⟨_, rfl, ?_, K4.out.trans hkp⟩
      refine ⟨hown.1, hown.2.imp id ?_⟩
      rintro ⟨g1, c1, c2, h1, h2, h3⟩
      exact ⟨g1, c1, c2, h1, Nat.le_trans kl h2, h3⟩
set_option maxRecDepth 100000 in
set_option maxHeartbeats 4000000 in
theorem lof_not (z : Zo) (y m d h i s : Int) (w : World) (hn : ¬ (mayZ z = true ∧ okP y m d ∧ tmB h i s = true ∧ 1970 ≤ y ∧ y ≤ 9998)) :
    Calls Tryz.prog 18 #[zoV z, civ y m d h i s] w fun e w' => e = .returned (.tuple #[.slice none 0 0, .int .i64 1]) ∧ Kept w w' := by
  have HN := Lib.hid hn; clear hn
  have B0 := Lib.hid (bz_new w z)
  have K0 := Lib.hid ((Kept.refl w).alloc (.cells (zo15 z.std z.off z.has z.dst z.ahead z.fr.k z.fr.m z.fr.w z.fr.d z.fr.a z.to.k z.to.m z.to.w z.to.d z.to.a) 25))
  go_enter Tryz.func18, Tryz.ntmps18
  go_upto_region 1 with (fail)
  generalize hx : w.alloc (.cells (zo15 z.std z.off z.has z.dst z.ahead z.fr.k z.fr.m z.fr.w z.fr.d z.fr.a z.to.k z.to.m z.to.w z.to.d z.to.a) 25) = x at *
  have s1 : x.heap.size = w.heap.size + 1 := by rw [← hx]; simp
  clear hx
  have b1 : Bc x.heap.size y m d h i s (x.alloc (.cells #[.int .i64 y, .int .i64 m, .int .i64 d, .int .i64 h, .int .i64 i, .int .i64 s] 34)) := new_block x _
  have k1 := (Kept.refl x).alloc (.cells #[.int .i64 y, .int .i64 m, .int .i64 d, .int .i64 h, .int .i64 i, .int .i64 s] 34)
  rw [s1] at b1
  generalize x.alloc (.cells #[.int .i64 y, .int .i64 m, .int .i64 d, .int .i64 h, .int .i64 i, .int .i64 s] 34) = x1 at *
  have B1 := Lib.hid (B0.out.kept k1)
  have C1 := Lib.hid b1
  have K1 := Lib.hid (K0.out.trans k1)
  clear B0 K0 k1 b1
  have e0 := cell_of C1.out (j := 0) rfl
  have e1 := cell_of C1.out (j := 1) rfl
  have e2 := cell_of C1.out (j := 2) rfl
  have e3 := cell_of C1.out (j := 3) rfl
  have e4 := cell_of C1.out (j := 4) rfl
  have e5 := cell_of C1.out (j := 5) rfl
  by_cases hk : okP y m d ∧ tmB h i s = true
  · have HK := Lib.hid hk; clear hk
    go_wp2_with fail
    refine (of_yes y m d h i s _ HK.out.1 HK.out.2).mono ?_
    rintro e w2 ⟨rfl, k2⟩
    generalize sec y m d h i s = n at *
    have B2 := Lib.hid (B1.out.kept k2)
    have C2 := Lib.hid (C1.out.kept k2)
    have K2 := Lib.hid (K1.out.trans k2)
    clear e0 e1 e2 e3 e4 e5 B1 C1 K1 k2
    go_wp2_with (refine wpList_load_row rfl 25 _ rfl w.heap.size rfl 25 _ (0, 0) _ B2.out Tryz.underlying25 rfl (by kernel_rfl) ?_)
    refine (zMay_any z _).mono ?_
    rintro e w3 ⟨rfl, k3⟩
    have C3 := Lib.hid (C2.out.kept k3)
    have K3 := Lib.hid (K2.out.trans k3)
    clear B2 C2 K2 k3
    cases hz : mayZ z with
    | false =>
      clear hz
      go_wp2
      exact bodyPost_ret (v := .tuple #[.slice none 0 0, .int .i64 1]) (by simp [results, Tryz.results18, go_sem, *]) rfl ⟨rfl, K3.out⟩
    | true =>
      have HY := Lib.hid (show ¬ (1970 ≤ y ∧ y ≤ 9998) from fun hy => HN.out ⟨hz, HK.out.1, HK.out.2, hy⟩)
      clear hz
      have e0 := cell_of C3.out (j := 0) rfl
      by_cases hy : 1970 ≤ y
      · have hy2 : 9998 < y := by have := HY.out; omega
        go_wp2
        exact bodyPost_ret (v := .tuple #[.slice none 0 0, .int .i64 1]) (by simp [results, Tryz.results18, go_sem, *]) rfl ⟨rfl, K3.out⟩
      · go_wp2
        exact bodyPost_ret (v := .tuple #[.slice none 0 0, .int .i64 1]) (by simp [results, Tryz.results18, go_sem, *]) rfl ⟨rfl, K3.out⟩
  · go_wp2_with fail
    refine (of_not y m d h i s _ hk).mono ?_
    rintro e w2 ⟨rfl, k2⟩
    have B2 := Lib.hid (B1.out.kept k2)
    have K2 := Lib.hid (K1.out.trans k2)
    clear e0 e1 e2 e3 e4 e5 B1 C1 K1 k2 hk
    go_wp2_with (refine wpList_load_row rfl 25 _ rfl w.heap.size rfl 25 _ (0, 0) _ B2.out Tryz.underlying25 rfl (by kernel_rfl) ?_)
    refine (zMay_any z _).mono ?_
    rintro e w3 ⟨rfl, k3⟩
    have K3 := Lib.hid (K2.out.trans k3)
    clear B2 K2 k3
    cases hz : mayZ z with
    | false =>
      clear hz
      go_wp2
      exact bodyPost_ret (v := .tuple #[.slice none 0 0, .int .i64 1]) (by simp [results, Tryz.results18, go_sem, *]) rfl ⟨rfl, K3.out⟩
    | true =>
      clear hz
      go_wp2
      exact bodyPost_ret (v := .tuple #[.slice none 0 0, .int .i64 1]) (by simp [results, Tryz.results18, go_sem, *]) rfl ⟨rfl, K3.out⟩
end Go.Proofs.YtilgamjahediiaaGreatDoor
