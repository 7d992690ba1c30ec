/- Package feed: what both kinds of feeds have in common. -/
import Derived.Test.YtflhmgnhjnaiiaaGreatDoorFdS
set_option linter.unusedSimpArgs false
set_option linter.unusedVariables false
namespace Go.Proofs.YtflhmgnhjnaiiaaGreatDoor.Fd
open Go.ChangeShapes Go.WideShapes Go.ChangeAt Go.RowKit Go.Shelf
open En Xm
theorem e5z : (([], [], [], [], 0) : Ent) = ([], [], [], [], 0) := rfl
def e5 (e : Ent) : Array Value := #[sV e.1, sV e.2.1, sV e.2.2.1, sV e.2.2.2.1, iV e.2.2.2.2]
abbrev entV (e : Ent) : Value := .agg #[sV e.1, sV e.2.1, sV e.2.2.1, sV e.2.2.2.1, iV e.2.2.2.2]
/-- an entry in a block -/
def Eb (b : Nat) (e : Ent) (W : World) : Prop := W.heap[b]? = some (.cells (e5 e) 32)
theorem Eb.lt {b : Nat} {e : Ent} {W : World} (h : Eb b e W) : b < W.heap.size := (Array.getElem?_eq_some_iff.1 h).1
theorem Eb.kept {b : Nat} {e : Ent} {W W' : World} (h : Eb b e W) (k : Kept W W') : Eb b e W' := (k.block _ h.lt).trans h
theorem Eb.cells {b : Nat} {e : Ent} {W : World} (h : Eb b e W) : W.cell? ⟨b, 0, none⟩ = some (sV e.1) ∧ W.cell? ⟨b, 1, none⟩ = some (sV e.2.1) ∧ W.cell? ⟨b, 2, none⟩ = some (sV e.2.2.1) ∧ W.cell? ⟨b, 3, none⟩ = some (sV e.2.2.2.1) ∧ W.cell? ⟨b, 4, none⟩ = some (iV e.2.2.2.2) :=
  ⟨cell_at h rfl, cell_at h rfl, cell_at h rfl, cell_at h rfl, cell_at h rfl⟩
theorem Eb.frz {b : Nat} {e : Ent} {W : World} (h : Eb b e W) (j : Nat) : W.frozen? ⟨b, j, none⟩ = false := by unfold Eb at h; simp [World.frozen?, h]
theorem Eb.new (W : World) (e : Ent) : Eb W.heap.size e (W.alloc (.cells (e5 e) 32)) := World.alloc_heap_new W _
abbrev put5 (x : World) (b : Nat) (e : Ent) : World := ((((x.setCell ⟨b, 0, none⟩ (sV e.1)).setCell ⟨b, 1, none⟩ (sV e.2.1)).setCell ⟨b, 2, none⟩ (sV e.2.2.1)).setCell ⟨b, 3, none⟩ (sV e.2.2.2.1)).setCell ⟨b, 4, none⟩ (iV e.2.2.2.2)
theorem Eb.put {b : Nat} {e e' : Ent} {x : World} (h : Eb b e x) : Eb b e' (put5 x b e') := by
  unfold Eb at h ⊢
  simp [put5, World.setCell, Array.getElem?_modify, h, e5]
theorem kept_put5 {w x : World} (k : Kept w x) {b : Nat} (hb : w.heap.size ≤ b) (e : Ent) : Kept w (put5 x b e) :=
  ((((k.setCell (a := ⟨b, 0, none⟩) hb _).setCell (a := ⟨b, 1, none⟩) hb _).setCell (a := ⟨b, 2, none⟩) hb _).setCell (a := ⟨b, 3, none⟩) hb _).setCell (a := ⟨b, 4, none⟩) hb _
/-- what is asked of pieces -/
structure Sml (v : Value) (l : List Tk) (w : World) : Prop where
  rd : TkRd v l w
  fw : Fw 1000000 l
  tx : (txs l).length ≤ 100000
  ne : l ≠ []
theorem Sml.kept {v : Value} {l : List Tk} {w w' : World} (h : Sml v l w) (k : Kept w w') : Sml v l w' := ⟨h.rd.kept k, h.fw, h.tx, h.ne⟩
theorem Sml.sl {v : Value} {l : List Tk} {w : World} (h : Sml v l w) : ∃ g o c, v = .slice (some ⟨g, o, none⟩) l.length c := by
  obtain ⟨a, c, rfl⟩ := h.rd.slice
  cases l with
  | nil => exact absurd rfl h.ne
  | cons t r =>
    obtain ⟨-, g, o, x, rfl, _⟩ := h.rd.at (i := 0) (t := t) rfl
    exact ⟨g, o, c, rfl⟩
/-- the value of the first part of some names, which a call has written down -/
theorem vo_any {v : Value} {l : List Tk} {w : World} (h : Sml v l w) (hE : Env w) (ns : List B) (hn : ns.length ≤ 10) (x : World) (k : Kept w x) (m : Nat × Nat) :
    Calls Tryz.prog 23 #[v, .slice (some ⟨x.heap.size, 0, none⟩) ns.length ns.length] (x.alloc (.cells (ns.map sV).toArray 9 m)) fun e w' => e = .returned (sV (vOf ns l)) ∧ Kept x w' := by
  cases l with
  | nil => exact absurd rfl h.ne
  | cons t r =>
    have k1 := (Kept.refl x).alloc (.cells (ns.map sV).toArray 9 m)
    exact (valueOf_any v _ ns t r _ ((h.kept k).kept k1).rd ⟨_, _, _, rfl, sr_new x ns hn m⟩ h.fw ((hE.kept k).kept k1) h.tx).mono fun e w' ⟨he, hk⟩ => ⟨he, k1.trans hk⟩
set_option maxRecDepth 100000 in
set_option maxHeartbeats 2000000 in
theorem entR_any (v : Value) (l : List Tk) (w : World) (h : Sml v l w) (hE : Env w) :
    Calls Tryz.prog 140 #[.agg #[], v] w fun e w' => e = .returned (entV (entR l)) ∧ Kept w w' := by
  have HV := Lib.hid (fun ns hn x k => vo_any h hE ns hn x k (0, 0))
  have HR := Lib.hid (show entR l = (vOf [sGuid] l, vOf [sTitle] l, vOf [sLink] l, vOf [sDesc] l, 0) from rfl)
  obtain ⟨g, o, c, rfl⟩ := h.sl
  generalize entR l = q at *
  clear h hE
  go_enter Tryz.func140, Tryz.ntmps140
  go_upto_region 1 with (fail)
  have E0 := Eb.new (w.alloc (.cells #[] 86)) ([], [], [], [], 0)
  rw [show (w.alloc (.cells #[] 86)).heap.size = w.heap.size + 1 by simp] at E0
  have k0 := ((Kept.refl w).alloc (.cells #[] 86)).alloc (.cells (e5 ([], [], [], [], 0)) 32)
  generalize hx : (w.alloc (.cells #[] 86)).alloc (.cells (e5 ([], [], [], [], 0)) 32) = x0 at *
  rw [show (w.alloc (.cells #[] 86)).alloc (.cells #[.string ⟨#[]⟩, .string ⟨#[]⟩, .string ⟨#[]⟩, .string ⟨#[]⟩, .int .i64 0] 32) = x0 from hx]
  clear hx
  have E0 := Lib.hid E0; have K0 := Lib.hid k0
  clear k0
  go_wp2_with fail
  refine (HV.out [sGuid] (by simp) x0 K0.out).mono ?_
  rintro e x1 ⟨rfl, k1⟩
  have E1 := Lib.hid (E0.out.kept k1); have K1 := Lib.hid (K0.out.trans k1)
  clear k1 E0 K0
  go_wp2_with fail
  refine (HV.out [sTitle] (by simp) x1 K1.out).mono ?_
  rintro e x2 ⟨rfl, k2⟩
  have E2 := Lib.hid (E1.out.kept k2); have K2 := Lib.hid (K1.out.trans k2)
  clear k2 E1 K1
  go_wp2_with fail
  refine (HV.out [sLink] (by simp) x2 K2.out).mono ?_
  rintro e x3 ⟨rfl, k3⟩
  have E3 := Lib.hid (E2.out.kept k3); have K3 := Lib.hid (K2.out.trans k3)
  clear k3 E2 K2
  go_wp2_with fail
  refine (HV.out [sDesc] (by simp) x3 K3.out).mono ?_
  rintro e x4 ⟨rfl, k4⟩
  have E4 := Lib.hid (E3.out.kept k4); have K4 := Lib.hid (K3.out.trans k4)
  clear k4 E3 K3 HV
  obtain ⟨c0, c1, c2, c3, c4⟩ := E4.out.cells
  have f0 := E4.out.frz 0; have f1 := E4.out.frz 1; have f2 := E4.out.frz 2; have f3 := E4.out.frz 3; have f4 := E4.out.frz 4
  have N := Lib.hid (E4.out.put (e' := (vOf [sGuid] l, vOf [sTitle] l, vOf [sLink] l, vOf [sDesc] l, 0)))
  have KN := Lib.hid (kept_put5 K4.out (show w.heap.size ≤ w.heap.size + 1 by omega) (vOf [sGuid] l, vOf [sTitle] l, vOf [sLink] l, vOf [sDesc] l, 0))
  generalize vOf [sGuid] l = v1 at *
  generalize vOf [sTitle] l = v2 at *
  generalize vOf [sLink] l = v3 at *
  generalize vOf [sDesc] l = v4 at *
  clear E4 K4
  go_wp2
  obtain ⟨d0, d1, d2, d3, d4⟩ := N.out.cells
  refine bodyPost_ret (v := entV (v1, v2, v3, v4, 0)) (by simp [results, Tryz.results140, go_sem, d0, d1, d2, d3, d4]) rfl ?_
  exact ⟨by rw [HR.out], KN.out⟩
set_option maxRecDepth 100000 in
set_option maxHeartbeats 2000000 in
theorem entA_any (v : Value) (l : List Tk) (w : World) (h : Sml v l w) (hE : Env w) :
    Calls Tryz.prog 143 #[.agg #[], v] w fun e w' => e = .returned (entV (entA Sm.rparse l)) ∧ Kept w w' := by
  have HV := Lib.hid (fun ns hn x k => vo_any h hE ns hn x k (0, 0))
  have HR := Lib.hid (show entA Sm.rparse l = (vOf [sId] l, vOf [sTitle] l, alt l, vOf [sSum, sCont] l, secQ (vOf [sUpd] l)) from rfl)
  have HA := Lib.hid (fun x (k : Kept w x) => show Calls Tryz.prog 145 #[v] x fun e w' => e = .returned (sV (alt l)) ∧ Kept x w' by
    cases l with
    | nil => exact absurd rfl h.ne
    | cons t r => exact alternate_any v t r x (h.kept k).rd h.fw)
  obtain ⟨g, o, c, rfl⟩ := h.sl
  generalize entA Sm.rparse l = q at *
  clear h hE
  go_enter Tryz.func143, Tryz.ntmps143
  go_upto_region 1 with (fail)
  have E0 := Eb.new (w.alloc (.cells #[] 87)) ([], [], [], [], 0)
  rw [show (w.alloc (.cells #[] 87)).heap.size = w.heap.size + 1 by simp] at E0
  have k0 := ((Kept.refl w).alloc (.cells #[] 87)).alloc (.cells (e5 ([], [], [], [], 0)) 32)
  generalize hx : (w.alloc (.cells #[] 87)).alloc (.cells (e5 ([], [], [], [], 0)) 32) = x0 at *
  rw [show (w.alloc (.cells #[] 87)).alloc (.cells #[.string ⟨#[]⟩, .string ⟨#[]⟩, .string ⟨#[]⟩, .string ⟨#[]⟩, .int .i64 0] 32) = x0 from hx]
  clear hx
  have E0 := Lib.hid E0; have K0 := Lib.hid k0
  clear k0
  go_wp2_with fail
  refine (HV.out [sId] (by simp) x0 K0.out).mono ?_
  rintro e x1 ⟨rfl, k1⟩
  have E1 := Lib.hid (E0.out.kept k1); have K1 := Lib.hid (K0.out.trans k1)
  clear k1 E0 K0
  go_wp2_with fail
  refine (HV.out [sTitle] (by simp) x1 K1.out).mono ?_
  rintro e x2 ⟨rfl, k2⟩
  have E2 := Lib.hid (E1.out.kept k2); have K2 := Lib.hid (K1.out.trans k2)
  clear k2 E1 K1
  go_wp2_with fail
  refine (HA.out x2 K2.out).mono ?_
  rintro e x3 ⟨rfl, k3⟩
  have E3 := Lib.hid (E2.out.kept k3); have K3 := Lib.hid (K2.out.trans k3)
  clear k3 E2 K2
  go_wp2_with fail
  refine (HV.out [sSum, sCont] (by simp) x3 K3.out).mono ?_
  rintro e x3b ⟨rfl, k3b⟩
  have E3b := Lib.hid (E3.out.kept k3b); have K3b := Lib.hid (K3.out.trans k3b)
  clear k3b E3 K3
  go_wp2_with fail
  refine (HV.out [sUpd] (by simp) x3b K3b.out).mono ?_
  rintro e x3c ⟨rfl, k3c⟩
  have E3c := Lib.hid (E3b.out.kept k3c); have K3c := Lib.hid (K3b.out.trans k3c)
  clear k3c E3b K3b
  go_wp2_with fail
  refine (second_any (vOf [sUpd] l) x3c).mono ?_
  rintro e x4 ⟨rfl, k4⟩
  have E4 := Lib.hid (E3c.out.kept k4); have K4 := Lib.hid (K3c.out.trans k4)
  clear k4 E3c K3c HV HA
  obtain ⟨c0, c1, c2, c3, c4⟩ := E4.out.cells
  have f0 := E4.out.frz 0; have f1 := E4.out.frz 1; have f2 := E4.out.frz 2; have f3 := E4.out.frz 3; have f4 := E4.out.frz 4
  have N := Lib.hid (E4.out.put (e' := (vOf [sId] l, vOf [sTitle] l, alt l, vOf [sSum, sCont] l, secQ (vOf [sUpd] l))))
  have KN := Lib.hid (kept_put5 K4.out (show w.heap.size ≤ w.heap.size + 1 by omega) (vOf [sId] l, vOf [sTitle] l, alt l, vOf [sSum, sCont] l, secQ (vOf [sUpd] l)))
  generalize vOf [sId] l = v1 at *
  generalize vOf [sTitle] l = v2 at *
  generalize alt l = v3 at *
  generalize vOf [sSum, sCont] l = v4 at *
  generalize secQ (vOf [sUpd] l) = v5 at *
  clear E4 K4
  go_wp2
  obtain ⟨d0, d1, d2, d3, d4⟩ := N.out.cells
  refine bodyPost_ret (v := entV (v1, v2, v3, v4, v5)) (by simp [results, Tryz.results143, go_sem, d0, d1, d2, d3, d4]) rfl ?_
  exact ⟨by rw [HR.out], KN.out⟩
end Go.Proofs.YtflhmgnhjnaiiaaGreatDoor.Fd
