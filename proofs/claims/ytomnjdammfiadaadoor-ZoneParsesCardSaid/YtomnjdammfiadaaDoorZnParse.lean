/- Contracts of package zone: a text is parsed. -/
import Derived.Test.YtomnjdammfiadaaDoorZnRdZ
import Derived.Laws.ResultCell
namespace Go.Proofs.YtomnjdammfiadaaDoor
open Go.ChangeShapes Go.WideShapes Go.ChangeAt Go.RowKit
open Zn
def zo0 : Zo := ⟨[], 0, false, [], 0, ru0, ru0⟩
/-- the zone that a text is, or none -/
def prs (l : List UInt8) : Option Zo := if mayZ (red l) = true ∧ wt (red l) = l then some (red l) else none
def ParsePost (o : Option Zo) (w : World) (e : Ending) (w' : World) : Prop :=
  match o with
  | none => e = .returned (.tuple #[zoV zo0, .int .i64 2]) ∧ Kept w w'
  | some z => e = .returned (.tuple #[zoV z, .int .i64 0]) ∧ Kept w w'
theorem new_block (w : World) (o : Obj) : (w.alloc o).heap[w.heap.size]? = some o := by show (w.heap.push o)[w.heap.size]? = _; simp
theorem parse_results (n : Nat) (z : Zo) (e : Int) (tmps : Array Value) (x : World) (old : Array Value) (h2 : tmps.getD 2 undef = .pointer (some ⟨n, 0, none⟩)) (h3 : tmps.getD 3 undef = .int .i64 e) (hb : x.heap[n]? = some (.cells old 25)) :
    (results Tryd.f14 tmps).run Tryd.prog (x.setRow n (zo15 z.std z.off z.has z.dst z.ahead z.fr.k z.fr.m z.fr.w z.fr.d z.fr.a z.to.k z.to.m z.to.w z.to.d z.to.a)) = .ok (.tuple #[zoV z, .int .i64 e]) (x.setRow n (zo15 z.std z.off z.has z.dst z.ahead z.fr.k z.fr.m z.fr.w z.fr.d z.fr.a z.to.k z.to.m z.to.w z.to.d z.to.a)) := by
  rw [results_cell_tmp Tryd.results14, h2, h3]
  have hl := run_loadVar_row (P := Tryd.prog) (x.setRow n (zo15 z.std z.off z.has z.dst z.ahead z.fr.k z.fr.m z.fr.w z.fr.d z.fr.a z.to.k z.to.m z.to.w z.to.d z.to.a)) n 25 25 _ (0, 0) _ (setRow_heap _ _ _ _ _ _ hb) Tryd.underlying25 rfl (by kernel_rfl)
  simp only [asAddr, Sem.run_pure, Result.andThen_ok, hl]
set_option maxRecDepth 100000 in
set_option maxHeartbeats 2000000 in
theorem parse_over (l : List UInt8) (w : World) (h : 100 < l.length) :
    Calls Tryd.prog 14 #[.string ⟨l.toArray⟩] w fun e w' => e = .returned (.tuple #[zoV zo0, .int .i64 4]) ∧ Kept w w' := by
  have hb := Lib.hid (new_block w (.cells (zo15 [] 0 false [] 0 0 0 0 0 0 0 0 0 0 0) 25))
  have kb := Lib.hid ((Kept.refl w).alloc (.cells (zo15 [] 0 false [] 0 0 0 0 0 0 0 0 0 0 0) 25))
  go_enter Tryd.func14, Tryd.ntmps14
  go_upto_region 2 with (fail)
  generalize w.alloc (.cells (zo15 [] 0 false [] 0 0 0 0 0 0 0 0 0 0 0) 25) = x at *
  go_wp2_with (refine wpList_store_row rfl 25 _ _ rfl w.heap.size _ rfl rfl 25 _ hb.out (by kernel_rfl) rfl (zo15_one [] _ _ [] _ _ _ _ _ _ _ _ _ _ _) ?_)
  exact bodyPost_ret (v := .tuple #[zoV zo0, .int .i64 4]) (parse_results w.heap.size zo0 4 _ x _ rfl rfl hb.out) rfl ⟨rfl, kb.out.setRow (Nat.le_refl _) _⟩
set_option maxRecDepth 100000 in
set_option maxHeartbeats 2000000 in
theorem parse_arg (l : List UInt8) (w : World) (h : l.length ≤ 100) (hz : mayZ (red l) = false) (htab : Tab w) :
    Calls Tryd.prog 14 #[.string ⟨l.toArray⟩] w fun e w' => e = .returned (.tuple #[zoV zo0, .int .i64 2]) ∧ Kept w w' := by
  have HZ := Lib.hid hz; clear hz
  have hb := Lib.hid (new_block w (.cells (zo15 [] 0 false [] 0 0 0 0 0 0 0 0 0 0 0) 25))
  have kb := Lib.hid ((Kept.refl w).alloc (.cells (zo15 [] 0 false [] 0 0 0 0 0 0 0 0 0 0 0) 25))
  have hlt := Lib.hid (show w.heap.size < (w.alloc (.cells (zo15 [] 0 false [] 0 0 0 0 0 0 0 0 0 0 0) 25)).heap.size by simp)
  have HT := Lib.hid htab; clear htab
  go_enter Tryd.func14, Tryd.ntmps14
  go_upto_region 3 with (fail)
  generalize w.alloc (.cells (zo15 [] 0 false [] 0 0 0 0 0 0 0 0 0 0 0) 25) = x at *
  go_wp2_with fail
  refine (read_any l _ (by omega)).mono ?_
  rintro e x1 ⟨rfl, k1⟩
  generalize hRd : red l = z at *
  have HE := Lib.hid hRd; clear hRd
  have b1 := Lib.hid ((k1.block _ hlt.out).trans hb.out)
  have l1 := Lib.hid (Nat.lt_of_lt_of_le hlt.out k1.size)
  have kw1 := Lib.hid (kb.out.trans k1); clear k1 hb kb hlt
  have N2 := Lib.hid (new_block x1 (.cells (zo15 z.std z.off z.has z.dst z.ahead z.fr.k z.fr.m z.fr.w z.fr.d z.fr.a z.to.k z.to.m z.to.w z.to.d z.to.a) 25))
  have K2 := Lib.hid ((Kept.refl x1).alloc (.cells (zo15 z.std z.off z.has z.dst z.ahead z.fr.k z.fr.m z.fr.w z.fr.d z.fr.a z.to.k z.to.m z.to.w z.to.d z.to.a) 25))
  go_upto_region 4 with (fail)
  have b2 := Lib.hid ((K2.out.block _ l1.out).trans b1.out)
  have l2 := Lib.hid (Nat.lt_of_lt_of_le l1.out K2.out.size)
  have kw2 := Lib.hid (kw1.out.trans K2.out)
  clear K2 kw1 l1 b1
  generalize hm : x1.heap.size = m at *
  generalize x1.alloc (.cells (zo15 z.std z.off z.has z.dst z.ahead z.fr.k z.fr.m z.fr.w z.fr.d z.fr.a z.to.k z.to.m z.to.w z.to.d z.to.a) 25) = x2 at *
  have lm := Lib.hid (show m < x2.heap.size by have := (Array.getElem?_eq_some_iff.1 N2.out).1; exact this)
  clear hm
  go_wp2_with (refine wpList_load_row rfl 25 _ rfl m rfl 25 _ (0, 0) _ N2.out Tryd.underlying25 rfl (by kernel_rfl) ?_)
  refine (write_not z _ HZ.out).mono ?_
  rintro e x3 ⟨rfl, k3⟩
  have b3 := Lib.hid ((k3.block _ l2.out).trans b2.out)
  have n3 := Lib.hid ((k3.block _ lm.out).trans N2.out)
  have kw3 := Lib.hid (kw2.out.trans k3); clear k3 kw2 b2 N2 l2 lm
  go_wp2_with (refine wpList_store_row rfl 25 _ _ rfl w.heap.size _ rfl rfl 25 _ b3.out (by kernel_rfl) rfl (zo15_one [] _ _ [] _ _ _ _ _ _ _ _ _ _ _) ?_)
  exact bodyPost_ret (v := .tuple #[zoV zo0, .int .i64 2]) (parse_results w.heap.size zo0 2 _ x3 _ rfl rfl b3.out) rfl ⟨rfl, kw3.out.setRow (Nat.le_refl _) _⟩
set_option maxRecDepth 100000 in
set_option maxHeartbeats 2000000 in
theorem parse_ne (l : List UInt8) (w : World) (h : l.length ≤ 100) (hz : mayZ (red l) = true) (hne : ¬ wt (red l) = l) (htab : Tab w) :
    Calls Tryd.prog 14 #[.string ⟨l.toArray⟩] w fun e w' => e = .returned (.tuple #[zoV zo0, .int .i64 2]) ∧ Kept w w' := by
  have HZ := Lib.hid hz; clear hz
  have HN := Lib.hid hne; clear hne
  have hb := Lib.hid (new_block w (.cells (zo15 [] 0 false [] 0 0 0 0 0 0 0 0 0 0 0) 25))
  have kb := Lib.hid ((Kept.refl w).alloc (.cells (zo15 [] 0 false [] 0 0 0 0 0 0 0 0 0 0 0) 25))
  have hlt := Lib.hid (show w.heap.size < (w.alloc (.cells (zo15 [] 0 false [] 0 0 0 0 0 0 0 0 0 0 0) 25)).heap.size by simp)
  have HT := Lib.hid htab; clear htab
  go_enter Tryd.func14, Tryd.ntmps14
  go_upto_region 3 with (fail)
  generalize w.alloc (.cells (zo15 [] 0 false [] 0 0 0 0 0 0 0 0 0 0 0) 25) = x at *
  go_wp2_with fail
  refine (read_any l _ (by omega)).mono ?_
  rintro e x1 ⟨rfl, k1⟩
  generalize hRd : red l = z at *
  have HE := Lib.hid hRd; clear hRd
  have b1 := Lib.hid ((k1.block _ hlt.out).trans hb.out)
  have l1 := Lib.hid (Nat.lt_of_lt_of_le hlt.out k1.size)
  have kw1 := Lib.hid (kb.out.trans k1); clear k1 hb kb hlt
  have N2 := Lib.hid (new_block x1 (.cells (zo15 z.std z.off z.has z.dst z.ahead z.fr.k z.fr.m z.fr.w z.fr.d z.fr.a z.to.k z.to.m z.to.w z.to.d z.to.a) 25))
  have K2 := Lib.hid ((Kept.refl x1).alloc (.cells (zo15 z.std z.off z.has z.dst z.ahead z.fr.k z.fr.m z.fr.w z.fr.d z.fr.a z.to.k z.to.m z.to.w z.to.d z.to.a) 25))
  go_upto_region 4 with (fail)
  have b2 := Lib.hid ((K2.out.block _ l1.out).trans b1.out)
  have l2 := Lib.hid (Nat.lt_of_lt_of_le l1.out K2.out.size)
  have kw2 := Lib.hid (kw1.out.trans K2.out)
  clear K2 kw1 l1 b1
  generalize hm : x1.heap.size = m at *
  generalize x1.alloc (.cells (zo15 z.std z.off z.has z.dst z.ahead z.fr.k z.fr.m z.fr.w z.fr.d z.fr.a z.to.k z.to.m z.to.w z.to.d z.to.a) 25) = x2 at *
  have lm := Lib.hid (show m < x2.heap.size by have := (Array.getElem?_eq_some_iff.1 N2.out).1; exact this)
  clear hm
  go_wp2_with (refine wpList_load_row rfl 25 _ rfl m rfl 25 _ (0, 0) _ N2.out Tryd.underlying25 rfl (by kernel_rfl) ?_)
  refine (write_yes z _ HZ.out (kw2.out.tab' HT.out)).mono ?_
  rintro e x3 ⟨rfl, k3⟩
  have b3 := Lib.hid ((k3.block _ l2.out).trans b2.out)
  have n3 := Lib.hid ((k3.block _ lm.out).trans N2.out)
  have kw3 := Lib.hid (kw2.out.trans k3); clear k3 kw2 b2 N2 l2 lm
  have hne : (wt z == l) = false := by simpa using HN.out
  go_wp2_with (refine wpList_store_row rfl 25 _ _ rfl w.heap.size _ rfl rfl 25 _ b3.out (by kernel_rfl) rfl (zo15_one [] _ _ [] _ _ _ _ _ _ _ _ _ _ _) ?_)
  exact bodyPost_ret (v := .tuple #[zoV zo0, .int .i64 2]) (parse_results w.heap.size zo0 2 _ x3 _ rfl rfl b3.out) rfl ⟨rfl, kw3.out.setRow (Nat.le_refl _) _⟩
set_option maxRecDepth 100000 in
set_option maxHeartbeats 2000000 in
theorem parse_ok (l : List UInt8) (w : World) (h : l.length ≤ 100) (hz : mayZ (red l) = true) (hne : wt (red l) = l) (htab : Tab w) :
    Calls Tryd.prog 14 #[.string ⟨l.toArray⟩] w fun e w' => e = .returned (.tuple #[zoV (red l), .int .i64 0]) ∧ Kept w w' := by
  have HZ := Lib.hid hz; clear hz
  have HN := Lib.hid hne; clear hne
  have hb := Lib.hid (new_block w (.cells (zo15 [] 0 false [] 0 0 0 0 0 0 0 0 0 0 0) 25))
  have kb := Lib.hid ((Kept.refl w).alloc (.cells (zo15 [] 0 false [] 0 0 0 0 0 0 0 0 0 0 0) 25))
  have hlt := Lib.hid (show w.heap.size < (w.alloc (.cells (zo15 [] 0 false [] 0 0 0 0 0 0 0 0 0 0 0) 25)).heap.size by simp)
  have HT := Lib.hid htab; clear htab
  go_enter Tryd.func14, Tryd.ntmps14
  go_upto_region 3 with (fail)
  generalize w.alloc (.cells (zo15 [] 0 false [] 0 0 0 0 0 0 0 0 0 0 0) 25) = x at *
  go_wp2_with fail
  refine (read_any l _ (by omega)).mono ?_
  rintro e x1 ⟨rfl, k1⟩
  generalize hRd : red l = z at *
  have HE := Lib.hid hRd; clear hRd
  have b1 := Lib.hid ((k1.block _ hlt.out).trans hb.out)
  have l1 := Lib.hid (Nat.lt_of_lt_of_le hlt.out k1.size)
  have kw1 := Lib.hid (kb.out.trans k1); clear k1 hb kb hlt
  have N2 := Lib.hid (new_block x1 (.cells (zo15 z.std z.off z.has z.dst z.ahead z.fr.k z.fr.m z.fr.w z.fr.d z.fr.a z.to.k z.to.m z.to.w z.to.d z.to.a) 25))
  have K2 := Lib.hid ((Kept.refl x1).alloc (.cells (zo15 z.std z.off z.has z.dst z.ahead z.fr.k z.fr.m z.fr.w z.fr.d z.fr.a z.to.k z.to.m z.to.w z.to.d z.to.a) 25))
  go_upto_region 4 with (fail)
  have b2 := Lib.hid ((K2.out.block _ l1.out).trans b1.out)
  have l2 := Lib.hid (Nat.lt_of_lt_of_le l1.out K2.out.size)
  have kw2 := Lib.hid (kw1.out.trans K2.out)
  clear K2 kw1 l1 b1
  generalize hm : x1.heap.size = m at *
  generalize x1.alloc (.cells (zo15 z.std z.off z.has z.dst z.ahead z.fr.k z.fr.m z.fr.w z.fr.d z.fr.a z.to.k z.to.m z.to.w z.to.d z.to.a) 25) = x2 at *
  have lm := Lib.hid (show m < x2.heap.size by have := (Array.getElem?_eq_some_iff.1 N2.out).1; exact this)
  clear hm
  go_wp2_with (refine wpList_load_row rfl 25 _ rfl m rfl 25 _ (0, 0) _ N2.out Tryd.underlying25 rfl (by kernel_rfl) ?_)
  refine (write_yes z _ HZ.out (kw2.out.tab' HT.out)).mono ?_
  rintro e x3 ⟨rfl, k3⟩
  have b3 := Lib.hid ((k3.block _ l2.out).trans b2.out)
  have n3 := Lib.hid ((k3.block _ lm.out).trans N2.out)
  have kw3 := Lib.hid (kw2.out.trans k3); clear k3 kw2 b2 N2 l2 lm
  rw [HN.out]
  go_wp2_with (first | (refine wpList_load_row rfl 25 _ rfl m rfl 25 _ (0, 0) _ n3.out Tryd.underlying25 rfl (by kernel_rfl) ?_) | (refine wpList_store_row rfl 25 _ _ rfl w.heap.size _ rfl rfl 25 _ b3.out (by kernel_rfl) rfl (zo15_one _ _ _ _ _ _ _ _ _ _ _ _ _ _ _) ?_))
  exact bodyPost_ret (v := .tuple #[zoV z, .int .i64 0]) (parse_results w.heap.size z 0 _ x3 _ rfl rfl b3.out) rfl ⟨by rw [HE.out], kw3.out.setRow (Nat.le_refl _) _⟩
theorem parse_any (l : List UInt8) (w : World) (h : l.length ≤ 100) (htab : Tab w) :
    Calls Tryd.prog 14 #[.string ⟨l.toArray⟩] w (ParsePost (prs l) w) := by
  unfold prs
  by_cases hz : mayZ (red l) = true
  · by_cases he : wt (red l) = l
    · rw [if_pos ⟨hz, he⟩]; exact parse_ok l w h hz he htab
    · rw [if_neg (fun k => he k.2)]; exact parse_ne l w h hz he htab
  · rw [if_neg (fun k => hz k.1)]; exact parse_arg l w h (by simpa using hz) htab
theorem prs_wt {z : Zo} (h : mayZ z = true) : prs (wt z) = some z := by
  unfold prs; rw [red_wt h, if_pos ⟨h, rfl⟩]
theorem prs_some {l : List UInt8} {z : Zo} (h : prs l = some z) : mayZ z = true ∧ wt z = l := by
  unfold prs at h; split at h
  · rename_i hc; cases h; exact hc
  · cases h
end Go.Proofs.YtomnjdammfiadaaDoor
