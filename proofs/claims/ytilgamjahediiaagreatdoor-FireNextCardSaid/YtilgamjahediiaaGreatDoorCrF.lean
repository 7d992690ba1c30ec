/- Several texts of this seat, one behind the other. -/
import Derived.Test.YtilgamjahediiaaGreatDoorCrSl
import Derived.Test.YtilgamjahediiaaGreatDoorCrSort
import Derived.Lib.OwnBridge
import Derived.Test.YtilgamjahediiaaGreatDoorBsZn
/- Contracts of package cron: a part's numbers. -/
set_option linter.unusedVariables false
namespace Go.Proofs.YtilgamjahediiaaGreatDoor
open Go.ChangeShapes Go.WideShapes Go.ChangeAt Go.RowKit
open Crn
theorem compact_at (g cap n : Nat) (zs : List Int) (w : World) (hn : zs.length = n) (hH : Sort.Holds (Value.int .i64) w g 0 zs.toArray) (hsz : n ≤ 9223372036854775807) (hcap : n ≤ cap) :
    Calls Tryz.prog 125 #[.slice (some ⟨g, 0, none⟩) n cap] w fun e w' => e = .returned (.slice (some ⟨g, 0, none⟩) (Lib.compact zs).length cap) ∧ ∃ q, w' = Sort.putRow (Value.int .i64) (Sort.ahead w q) g 0 (Lib.compact zs ++ List.replicate (zs.length - (Lib.compact zs).length) 0).toArray := by
  subst hn; exact Tryz.slices_Compact_int g 0 cap zs w hH hsz hcap
theorem sort_at (g cap n : Nat) (zs : List Int) (w : World) (hn : zs.length = n) (hH : Sort.Holds (Value.int .i64) w g 0 zs.toArray) (hblk : g < w.heap.size) (hsz : n < 4611686018427387904) :
    Calls Tryz.prog 124 #[.slice (some ⟨g, 0, none⟩) n cap] w fun e w' => e = .returned (.tuple #[]) ∧ ∃ n os, w' = Sort.grow (Sort.putRow (Value.int .i64) (Sort.ahead w n) g 0 (zs.mergeSort fun x y => decide (x ≤ y)).toArray) os := by
  subst hn; exact Tryz.slices_Sort_int g 0 cap zs w hH hblk hsz
theorem new_fro (w : World) (cs : Array Value) (t : TypeId) (j : Nat) : (w.alloc (.cells cs t)).frozen? ⟨w.heap.size, j, none⟩ = false := by
  unfold World.frozen?
  rw [show (w.alloc (.cells cs t)).heap = w.heap.push (.cells cs t) from rfl]
  simp
theorem counted_any (f : Nat) (n : Int) (w : World) : Calls Tryz.prog 123 #[fld f, .int .i64 n] w fun e w' => e = .returned (.int .i64 (cnt f n)) ∧ Kept w w' := by
  have k0 := (Kept.refl w).alloc (fldO f)
  have F0 := Fl.new f w
  obtain ⟨e0, e1⟩ := (⟨F0.c0, F0.c1⟩ : _ ∧ _)
  go_enter Tryz.func123, Tryz.ntmps123
  go_upto_region 1 with (fail)
  generalize w.alloc (fldO f) = x at *
  by_cases h : hi f < n
  · have HC := Lib.hid (show cnt f n = lo f by unfold cnt; rw [if_pos h])
    go_wp2
    go_ret
    rw [HC.out]; exact ⟨rfl, k0⟩
  · have HC := Lib.hid (show cnt f n = n by unfold cnt; rw [if_neg h])
    go_wp2
    go_ret
    rw [HC.out]; exact ⟨rfl, k0⟩
def PartPost (o : Option (List Int)) (w : World) (e : Ending) (w' : World) : Prop :=
  match o with
  | none => e = gone ∧ Kept w w'
  | some l => ∃ v, e = .returned v ∧ KOut w.heap.size v l w' ∧ Kept w w'
theorem gat_snoc {f : Nat} {ps : List (List UInt8)} {k : Nat} {t : List UInt8} (h : ps[k]? = some t) : gat f (ps.drop k) = (pc f t).bind fun q => (gat f (ps.drop (k + 1))).map fun l => (sq q.1 q.2.1 q.2.2).map (cnt f) ++ l := by
  have : ps.drop k = t :: ps.drop (k + 1) := by
    obtain ⟨hk, rfl⟩ := List.getElem?_eq_some_iff.1 h
    exact List.drop_eq_getElem_cons hk
  rw [this, gat]
def PartIn (f : Nat) (ps : List (List UInt8)) (W : World) (a b : Value) (x : World) : Prop :=
  ∃ (k : Nat) (done : List Int), k ≤ ps.length ∧ b = .int .i64 k ∧ done.length ≤ 60 * k ∧ gat f ps = (gat f (ps.drop k)).map (fun l => done ++ l) ∧ KOutIn W.heap.size W done a x
def InnIn (f : Nat) (a b st : Int) (done : List Int) (k : Nat) (W : World) (p q : Value) (x : World) : Prop :=
  ∃ (m : Int) (dn : List Int), q = .int .i64 m ∧ a ≤ m ∧ m ≤ 200 ∧ dn.length + (sq m b st).length ≤ 60 * k + 60 ∧ done ++ (sq a b st).map (cnt f) = dn ++ (sq m b st).map (cnt f) ∧ KOutIn W.heap.size W dn p x
theorem prt_none {f : Nat} {s : List UInt8} (h : gat f (splt 44 s) = none) : prt f s = none := by rw [prt, h]; rfl
set_option maxRecDepth 100000 in
set_option maxHeartbeats 4000000 in
theorem part_any (f : Nat) (s : List UInt8) (n : Nat) (w : World) (ht : Tb n w) (hn : n ≤ w.heap.size) (hl : s.length ≤ 300) : Calls Tryz.prog 112 #[fld f, .string ⟨s.toArray⟩] w (PartPost (prt f s) w) := by
  obtain ⟨i0, hi, hz0, hz1, hz2⟩ := info_parts (show (Tryz.prog.info? 3).map (fun i => (i.zero, i.size, i.bytes)) = some (some (.int .i64 0), 1, 8) by kernel_rfl)
  have hps := Lib.hid (Nat.le_trans (splt_len 44 s) (show s.length + 1 ≤ 301 by omega))
  have hwr := wr_bd f; have hlo := lo_bd f; have hhi := hi_bd f
  have k0 := (Kept.refl w).alloc (fldO f)
  have F0 := Fl.new f w
  have t0 := ht.kept k0
  go_enter Tryz.func112, Tryz.ntmps112
  go_upto_region 1 with (fail)
  generalize hx : w.alloc (fldO f) = x at *
  have hxs : w.heap.size ≤ x.heap.size := k0.size
  clear hx
  have F1 := Lib.hid F0; have K1 := Lib.hid k0; have T1 := Lib.hid t0
  clear F0 k0 t0 ht
  go_wp2_with fail
  refine (ksplit_any 44 s n _ T1.out (by omega)).mono ?_
  rintro e W ⟨rfl, hss, k2⟩
  have F2 := Lib.hid (F1.out.kept k2); have K2 := Lib.hid (K1.out.trans k2); have T2 := Lib.hid (T1.out.kept k2); have S2 := Lib.hid hss
  have HG := Lib.hid (show ∀ l, gat f (splt 44 s) = some l → prt f s = some (Lib.compact (l.mergeSort fun x y => decide (x ≤ y))) ∧ l ≠ [] from fun l => prt_eq)
  have HN := Lib.hid (show gat f (splt 44 s) = none → prt f s = none from prt_none)
  clear F1 K1 T1 hss k2
  have hWs : w.heap.size ≤ W.heap.size := K2.out.size
  generalize splt 44 s = ps at *
  generalize hq : prt f s = o at *
  clear hq
  go_wp2_with fail
  go_loopw [5, 16] (fun a b y => PartIn f ps W a b y) (fun _ b _ => ps.length - (intOf b).toNat)
  case atStart => exact ⟨0, [], Nat.zero_le _, rfl, by simp, by simp, none, 0, rfl, KOut.nil _ _, Kept.refl _⟩
  case round =>
    rename_i y
    obtain ⟨k, done, hk, rfl, hdl, hg, ao, cap, rfl, hown, hkp⟩ := hrel
    by_cases hlt : k < ps.length
    · obtain ⟨t, hpt⟩ : ∃ t, ps[k]? = some t := ⟨_, List.getElem?_eq_getElem hlt⟩
      have c0 := (S2.out.kept hkp).at hpt
      have HGS := Lib.hid (gat_snoc (f := f) hpt)
      have HGG := Lib.hid hg
      have Own := Lib.hid hown; have KP := Lib.hid hkp
      have F3 := Lib.hid (F2.out.kept hkp); have T3 := Lib.hid (T2.out.kept hkp)
      clear hpt hg hown hkp
      have hws : W.heap.size ≤ wr.heap.size := KP.out.size
      have k1 := (Kept.refl wr).alloc (.cells #[.string ⟨t.toArray⟩] 125)
      have c1 := new_cell wr #[.string ⟨t.toArray⟩] 125 0 _ rfl
      have f1 := new_fro wr #[.string ⟨t.toArray⟩] 125 0
      go_upto_region 6 with (fail)
      generalize wr.alloc (.cells #[.string ⟨t.toArray⟩] 125) = x1 at *
      have F4 := F3.out.kept k1
      have T4 := T3.out.kept k1
      have KP1 := Lib.hid (KP.out.trans k1)
      have Own1 := Lib.hid (Own.out.kept' k1)
      obtain ⟨e0, e1, e2, e3⟩ := (⟨F4.c0, F4.c1, F4.c2, F4.c3⟩ : _ ∧ _ ∧ _ ∧ _)
      have hne : w.heap.size ≠ wr.heap.size := by have := F3.out.lt; omega
      go_wp2_with fail
      refine (piece_any f t wr.heap.size n _ (by omega) T4 c1 f1).mono ?_
      intro e x2 hp
      rcases hr : rPiece f t with _ | ⟨⟨a, b, st⟩, r⟩
      · rw [hr] at hp
        obtain ⟨rfl, o2⟩ := hp
        refine ⟨rfl, ?_⟩
        rw [HN.out (by rw [HGG.out, HGS.out, pc, hr]; rfl)]
        exact ⟨rfl, K2.out.trans (KP1.out.only o2 hws)⟩
      rw [hr] at hp
      obtain ⟨rfl, o2, c2⟩ := hp
      obtain ⟨b1, b2, b3, b4, b5⟩ := rpiece_bd hr
      have F5 := Lib.hid (F4.only o2 hne)
      have KP2 := Lib.hid (KP1.out.only o2 hws)
      have Own2 := Lib.hid (Own.out.kept' ((k1.only o2 (Nat.le_refl _))))
      have HR := Lib.hid hr
      clear hr e0 e1 e2 e3 F4 T4 f1
      cases r with
      | cons z r =>
        go_wp2_with fail
        refine (need_not _ (by rfl) _).mono ?_
        rintro e x3 ⟨rfl, rfl⟩
        refine ⟨rfl, ?_⟩
        rw [HN.out (by rw [HGG.out, HGS.out, pc, HR.out]; rfl)]
        exact ⟨rfl, K2.out.trans KP2.out⟩
      | nil =>
        have HGT := Lib.hid (show gat f ps = (gat f (ps.drop (k + 1))).map (fun l => done ++ ((sq a b st).map (cnt f) ++ l)) by rw [HGG.out, HGS.out, pc, HR.out]; simp [Option.map_map]; rfl)
        clear HR HGG HGS c0 c1
        go_wp2_with fail
        refine (need_ok _ (by rfl) _).mono ?_
        rintro e x3 ⟨rfl, rfl⟩
        go_wp2_with fail
        have hb59 : b ≤ 59 := Int.le_trans b3 hwr.2
        have ha0 : 0 ≤ a := Int.le_trans hlo.1 b1
        have hsl := sq_len (b := b) b4 60 a (by omega)
        have hps60 := hps.out
        go_loopw [5, 12] (fun p q y => InnIn f a b st done k W p q y) (fun _ q _ => (b + 1 - intOf q).toNat)
        case atStart => exact ⟨a, done, rfl, Int.le_refl _, by omega, by omega, rfl, ao, cap, rfl, Own2.out, KP2.out⟩
        case round =>
          obtain ⟨m, dn, rfl, m1, m2, m3, m4, ao3, cap3, rfl, own3, kp3⟩ := hrel
          by_cases hmb : m ≤ b
          · have hst := sq_step b4 hmb
            have hq4 := Lib.hid (show done ++ (sq a b st).map (cnt f) = (dn ++ [cnt f m]) ++ (sq (m + st) b st).map (cnt f) by rw [m4, hst]; simp)
            have hq3 : (dn ++ [cnt f m]).length + (sq (m + st) b st).length ≤ 60 * k + 60 := by rw [hst] at m3; simp at m3 ⊢; omega
            have hdn : dn.length ≤ 60 * k + 60 := by omega
            have F6 := F2.out.kept kp3
            obtain ⟨e0, e1, e2, e3⟩ := (⟨F6.c0, F6.c1, F6.c2, F6.c3⟩ : _ ∧ _ ∧ _ ∧ _)
            have Own3 := Lib.hid own3; have KP3 := Lib.hid kp3
            clear own3 kp3 m4 hst F6
            go_wp2_with fail
            refine (counted_any f m _).mono ?_
            rintro e w6 ⟨rfl, k6⟩
            clear e0 e1 e2 e3
            go_wp2_with (at_builtin; refine wpList_append_own _ rfl _ _ 26 rfl W.heap.size 3 i0 (.int .i64 0) 1 8 Tryz.underlying26 hi hz0 hz1 hz2 rfl (by decide) _ _ _ rfl ((Own3.out.kept (k6.grownBy none) (by cases ao3 <;> simp [Value.ownBlock])).alloc _) ⟨w6.heap.size, 0, none⟩ 1 1 [.int .i64 (cnt f m)] rfl rfl (cell_one_new _ _ _) (fun x hx => by simp at hx; subst hx; rfl) (by unfold maxLen; omega) (by omega) (by have := KP3.out.size; have := k6.size; simp; omega) ?_; intro v' w7 hown' hgrow hnil)
            have HA := koutIn_app (Nat.le_refl _) (Own3.out.kept' k6) (KP3.out.trans k6) hgrow hown'
            go_roundw
            case rel => exact ⟨m + st, dn ++ [cnt f m], by go_num, by omega, by omega, hq3, hq4.out, HA⟩
            case measure => simp [intOf]; omega
          · have hdn : dn = done ++ (sq a b st).map (cnt f) := by rw [m4, sq_end (by omega)]; simp
            subst hdn
            have hdl2 : (done ++ (sq a b st).map (cnt f)).length ≤ 60 * (k + 1) := by omega
            have HGF := Lib.hid (show gat f ps = (gat f (ps.drop (k + 1))).map (fun l => (done ++ (sq a b st).map (cnt f)) ++ l) by rw [HGT.out]; simp only [List.append_assoc])
            have Own3 := Lib.hid own3; have KP3 := Lib.hid kp3
            clear own3 kp3 m4 HGT m3
            generalize done ++ (sq a b st).map (cnt f) = dd at *
            go_wp2
            go_roundw
            case rel => exact ⟨k + 1, dd, hlt, by go_num, hdl2, HGF.out, ao3, cap3, rfl, Own3.out, KP3.out⟩
            case measure => simp [intOf]; omega
    · have hgd : gat f ps = some done := by rw [hg, List.drop_eq_nil_of_le (by omega)]; simp [gat]
      obtain ⟨ho, hne⟩ := HG.out done hgd
      have hps60 := hps.out
      have Own := Lib.hid hown; have KP := Lib.hid hkp
      have HO := Lib.hid ho
      clear hown hkp hg hgd ho
      obtain ⟨g, cur, rfl, hgB, hgc, hcap, hcapm, hcs, hct⟩ : ∃ g cur, ao = some ⟨g, 0, none⟩ ∧ W.heap.size ≤ g ∧ wr.heap[g]? = some (.cells cur 3 (0, 0)) ∧ done.length ≤ cap ∧ cap ≤ maxLen ∧ cur.size = cap * 1 ∧ cur.toList.take (done.length * 1) = done.map (fun n => Value.int .i64 n) := by
        rcases Own.out.2 with ⟨h1, h2⟩ | ⟨g, c2, cur, h1, h2, h3, h4, h5, h6, h7⟩
        · exact absurd (List.length_eq_zero_iff.1 h2) hne
        · cases h1; exact ⟨g, cur, rfl, h2, h3, h4, h5, h6, h7⟩
      have hsz : done.length < 4611686018427387904 := by omega
      have hH := holds_of_blockI hgc (by simpa using hct)
      have hlen : (done.mergeSort fun x y => decide (x ≤ y)).length = done.length := List.length_mergeSort _
      go_wp2_with fail
      refine (Tryz.slices_Sort_int g 0 cap done _ hH (Array.getElem?_eq_some_iff.1 hgc).1 hsz).mono ?_
      rintro e w6 ⟨rfl, n6, os6, hw6⟩
      have own6 := ownsRow_sortedI (n := n6) (os := os6) hlen hgB hgc hcap hcapm hcs
      have gr6 := grownBy_sortedI (w := wr) (g := g) (n := n6) (os := os6) (done.mergeSort fun x y => decide (x ≤ y)).toArray
      have hb6 := heap_sortedI (n := n6) (os := os6) (done.mergeSort fun x y => decide (x ≤ y)).toArray hgc
      rw [← hw6] at own6 gr6 hb6
      clear hw6
      generalize done.mergeSort (fun x y => decide (x ≤ y)) = ss at *
      rcases own6.2 with ⟨h0, _⟩ | ⟨g', cap', cur', h1, h2, h3, h4, h5, h6, h7⟩
      · cases h0
      cases h1
      have hH2 := holds_of_blockI (ss := ss) h3 (by simpa [hlen] using h7)
      have hcl : (Lib.compact ss).length ≤ done.length := by rw [← hlen]; exact Lib.compact_length_le ss
      have KPs : Kept W w6 := ⟨gr6.os.trans KP.out.os, gr6.output.trans KP.out.output, Nat.le_trans KP.out.size gr6.size, fun j hj => (gr6.block j (Nat.lt_of_lt_of_le hj KP.out.size) (by simp; omega)).trans (KP.out.block j hj), gr6.tape.trans KP.out.tape⟩
      have K6 := Lib.hid (K2.out.trans KPs)
      have own7 := Lib.hid own6
      clear own6 gr6 hb6 KPs h7 HG HN
      go_wp2_with fail
      refine (compact_at g cap done.length ss _ hlen hH2 (by omega) (by omega)).mono ?_
      rintro e w8 ⟨rfl, q8, hw8⟩
      have own8 := Lib.ownsRow_putRow (q := q8) (k := (Lib.compact ss).length) (ys := Lib.compact ss ++ List.replicate (ss.length - (Lib.compact ss).length) 0) own7.out (by simp; omega) hcl
      have K8 : Kept w w8 := by
        rw [hw8]
        have := Lib.below_putRow (q := q8) (d := (Lib.compact ss ++ List.replicate (ss.length - (Lib.compact ss).length) 0).toArray) (enc := Value.int .i64) (K6.out.below (Nat.le_refl _)) (show w.heap.size ≤ g by omega)
        exact Kept.of_below this
      rw [← hw8, List.take_left'  rfl] at own8
      have HK8 := Lib.hid K8; have HO8 := Lib.hid own8
      clear hw8 own8 K8
      go_wp2
      go_ret
      rw [HO.out]
      exact ⟨_, rfl, KOut.mono HO8.out hWs, HK8.out⟩
end Go.Proofs.YtilgamjahediiaaGreatDoor
/- Contracts of package cron: the five fields. -/
set_option linter.unusedVariables false
namespace Go.Proofs.YtilgamjahediiaaGreatDoor
open Go.ChangeShapes Go.WideShapes Go.ChangeAt Go.RowKit
open Crn
abbrev fldsV : Value := .agg #[.int .i64 0, .int .i64 59, .int .i64 59, .string ⟨#[]⟩, .int .i64 0, .int .i64 23, .int .i64 23, .string ⟨#[]⟩, .int .i64 1, .int .i64 31, .int .i64 31, .string ⟨#[]⟩, .int .i64 1, .int .i64 12, .int .i64 12, .string ⟨#[106, 97, 110, 102, 101, 98, 109, 97, 114, 97, 112, 114, 109, 97, 121, 106, 117, 110, 106, 117, 108, 97, 117, 103, 115, 101, 112, 111, 99, 116, 110, 111, 118, 100, 101, 99]⟩, .int .i64 0, .int .i64 6, .int .i64 7, .string ⟨#[115, 117, 110, 109, 111, 110, 116, 117, 101, 119, 101, 100, 116, 104, 117, 102, 114, 105, 115, 97, 116]⟩]
theorem index_fld (W : World) (i : Nat) (hi : i < 5) : (Instr.index 66 fldsV (.int .i64 (i : Int))).run Tryz.prog W = .ok (fld i) W := by
  rcases (show i = 0 ∨ i = 1 ∨ i = 2 ∨ i = 3 ∨ i = 4 by omega) with rfl | rfl | rfl | rfl | rfl <;> kernel_rfl
set_option maxRecDepth 100000 in
set_option maxHeartbeats 1000000 in
theorem fields_any (w : World) : Calls Tryz.prog 44 #[] w fun e w' => e = .returned fldsV ∧ Kept w w' := by
  have hb := Lib.hid (new_block w (.cells #[Value.int .i64 0, .int .i64 0, .int .i64 0, .string ⟨#[]⟩, Value.int .i64 0, .int .i64 0, .int .i64 0, .string ⟨#[]⟩, Value.int .i64 0, .int .i64 0, .int .i64 0, .string ⟨#[]⟩, Value.int .i64 0, .int .i64 0, .int .i64 0, .string ⟨#[]⟩, Value.int .i64 0, .int .i64 0, .int .i64 0, .string ⟨#[]⟩] 66))
  have kb := Lib.hid ((Kept.refl w).alloc (.cells #[Value.int .i64 0, .int .i64 0, .int .i64 0, .string ⟨#[]⟩, Value.int .i64 0, .int .i64 0, .int .i64 0, .string ⟨#[]⟩, Value.int .i64 0, .int .i64 0, .int .i64 0, .string ⟨#[]⟩, Value.int .i64 0, .int .i64 0, .int .i64 0, .string ⟨#[]⟩, Value.int .i64 0, .int .i64 0, .int .i64 0, .string ⟨#[]⟩] 66))
  go_enter Tryz.func44, Tryz.ntmps44
  go_upto_region 1 with (fail)
  generalize w.alloc (.cells #[Value.int .i64 0, .int .i64 0, .int .i64 0, .string ⟨#[]⟩, Value.int .i64 0, .int .i64 0, .int .i64 0, .string ⟨#[]⟩, Value.int .i64 0, .int .i64 0, .int .i64 0, .string ⟨#[]⟩, Value.int .i64 0, .int .i64 0, .int .i64 0, .string ⟨#[]⟩, Value.int .i64 0, .int .i64 0, .int .i64 0, .string ⟨#[]⟩] 66) = x at *
  go_wp2_with (refine wpList_store_row rfl 66 _ _ rfl w.heap.size _ rfl rfl 66 _ hb.out (by kernel_rfl) rfl (by simp [Value.oneCell']) ?_)
  exact bodyPost_ret (v := fldsV) (results_cell_row Tryz.results44 _ _ w.heap.size 66 _ (0, 0) _ rfl (setRow_heap _ _ _ _ _ _ hb.out) Tryz.underlying66 rfl (by kernel_rfl)) rfl ⟨rfl, kb.out.setRow (Nat.le_refl _) _⟩
end Go.Proofs.YtilgamjahediiaaGreatDoor
