/- Contracts of package cron: a whole text is read, and parsed. -/
import Derived.Test.YtilgamjahediiaaGreatDoorCrCatch
set_option linter.unusedVariables false
namespace Go.Proofs.YtilgamjahediiaaGreatDoor
open Go.ChangeShapes Go.WideShapes Go.ChangeAt Go.RowKit
open Crn
/-- a reading's result -/
def ReadPost (o : Option CR) (w : World) (e : Ending) (w' : World) : Prop :=
  match o with
  | none => e = .returned (.tuple #[.agg z10, .int .i64 2]) ∧ Kept w w'
  | some c => ∃ sl, e = .returned (.tuple #[crV sl c.st, .int .i64 0]) ∧ (∀ i, i < 5 → KOut w.heap.size (sl i) (c.L i) w') ∧ Kept w w'
theorem read_results (n : Nat) (cs : Array Value) (e : Int) (tmps : Array Value) (x : World) (h10 : cs.size = 10) (h2 : tmps[2]? = some (.pointer (some ⟨n, 0, none⟩))) (h3 : tmps[3]? = some (.pointer (some ⟨n + 1, 0, none⟩)))
    (b0 : x.heap[n]? = some (.cells cs 30)) (b1 : x.heap[n + 1]? = some (.cells #[.int .i64 e] 42)) :
    (results Tryz.f83 tmps).run Tryz.prog x = .ok (.tuple #[.agg cs, .int .i64 e]) x := by
  have c1 := cell_of (j := 0) b1 rfl
  obtain ⟨a0, a1, a2, a3, a4, a5, a6, a7, a8, a9, rfl⟩ := arr10 cs h10
  have d0 := cell_of (j := 0) b0 rfl
  have d1 := cell_of (j := 1) b0 rfl
  have d2 := cell_of (j := 2) b0 rfl
  have d3 := cell_of (j := 3) b0 rfl
  have d4 := cell_of (j := 4) b0 rfl
  have d5 := cell_of (j := 5) b0 rfl
  have d6 := cell_of (j := 6) b0 rfl
  have d7 := cell_of (j := 7) b0 rfl
  have d8 := cell_of (j := 8) b0 rfl
  have d9 := cell_of (j := 9) b0 rfl
  clear b0 b1 h10
  simp [results, Tryz.results83, go_sem, *]
theorem read_out {w x : World} {cs : Array Value} (h10 : cs.size = 10) (R : Rd w cs 0 x) (tmps : Array Value)
    (h2 : tmps[2]? = some (.pointer (some ⟨w.heap.size, 0, none⟩))) (h3 : tmps[3]? = some (.pointer (some ⟨w.heap.size + 1, 0, none⟩))) :
    Leaves Tryz.prog Tryz.f83 tmps (ReadPost none w) [{ target := .fn (.func 109) #[.pointer (some ⟨w.heap.size, 0, none⟩), .pointer (some ⟨w.heap.size + 1, 0, none⟩)], args := #[] }] (.panicking [{ v := faultV, recovered := false }]) x := by
  refine leaves_cons (f := 109) (args := #[.pointer (some ⟨w.heap.size, 0, none⟩), .pointer (some ⟨w.heap.size + 1, 0, none⟩)]) (by simp) (by simp [go_sem]) ?_
  refine (catch_panicking w x cs h10 R).mono ?_
  rintro e u' w'' ⟨rfl, rfl, R2⟩
  show Leaves Tryz.prog Tryz.f83 tmps (ReadPost none w) [] .returning w''
  exact ⟨_, read_results w.heap.size z10 2 tmps w'' rfl h2 h3 R2.b0 R2.b1, rfl, R2.k⟩
theorem read_done {w x : World} {cs : Array Value} {c : CR} {sl : Nat → Value} (h10 : cs = cr10 sl c.st) (R : Rd w cs 0 x) (hs : ∀ i, i < 5 → KOut w.heap.size (sl i) (c.L i) x) (tmps : Array Value)
    (h2 : tmps[2]? = some (.pointer (some ⟨w.heap.size, 0, none⟩))) (h3 : tmps[3]? = some (.pointer (some ⟨w.heap.size + 1, 0, none⟩))) :
    Leaves Tryz.prog Tryz.f83 tmps (ReadPost (some c) w) [{ target := .fn (.func 109) #[.pointer (some ⟨w.heap.size, 0, none⟩), .pointer (some ⟨w.heap.size + 1, 0, none⟩)], args := #[] }] .returning x := by
  refine leaves_cons (f := 109) (args := #[.pointer (some ⟨w.heap.size, 0, none⟩), .pointer (some ⟨w.heap.size + 1, 0, none⟩)]) (by simp) (by simp [go_sem]) ?_
  refine (catch_idle _ _ _).mono ?_
  rintro e u' w'' ⟨rfl, rfl, kc⟩
  show Leaves Tryz.prog Tryz.f83 tmps (ReadPost (some c) w) [] .returning w''
  have kd := R.kept kc
  subst h10
  exact ⟨_, read_results w.heap.size _ 0 tmps w'' rfl h2 h3 kd.b0 kd.b1, sl, rfl, fun i hi => (hs i hi).kept' kc, kd.k⟩
theorem rd_start (w : World) : Rd w z10 0 ((w.alloc (.cells z10 30)).alloc (.cells #[.int .i64 0] 42)) := by
  have q : ∀ (A B : Obj), ((w.alloc A).alloc B).heap = (w.heap.push A).push B := fun _ _ => rfl
  refine ⟨((Kept.refl w).alloc _).alloc _, ?_, ?_⟩
  · rw [q, Array.getElem?_push, if_neg (by simp), Array.getElem?_push, if_pos rfl]
  · rw [q, Array.getElem?_push, if_pos (by simp)]
theorem prsL_snoc {ps : List (List UInt8)} {k : Nat} {p : List UInt8} (f : Nat) (h : ps[k]? = some p) : prsL f (ps.drop k) = (prt f p).bind fun a => (prsL (f + 1) (ps.drop (k + 1))).map fun l => a :: l := by
  have : ps.drop k = p :: ps.drop (k + 1) := by
    obtain ⟨hk, rfl⟩ := List.getElem?_eq_some_iff.1 h
    exact List.drop_eq_getElem_cons hk
  rw [this, prsL]
/-- what the first cells hold -/
def Fst (ps : List (List UInt8)) (B k : Nat) (cs : Array Value) (done : List (List Int)) (x : World) : Prop :=
  ∀ j, j < k → ∃ v, cs[j]? = some v ∧ KOut B v (done.getD j []) x ∧ cs[5 + j]? = some (.bool (decide (ps.getD j [] = [42])))
theorem results_put (tmps : Array Value) (j : Nat) (v : Value) (hj : 4 ≤ j) : results Tryz.f83 (tmps.setIfInBounds j v) = results Tryz.f83 tmps := by
  have q : ∀ i, i < 4 → (tmps.setIfInBounds j v)[i]? = tmps[i]? := fun i hi => by rw [Array.getElem?_setIfInBounds_ne (by omega)]
  simp [results, Tryz.results83, q]
theorem leaves_put {R : Ending → World → Prop} {tmps : Array Value} (j : Nat) (v : Value) (hj : 4 ≤ j) : ∀ {ds : List Deferred} {st : FrameMode} {w : World}, Leaves Tryz.prog Tryz.f83 (tmps.setIfInBounds j v) R ds st w → Leaves Tryz.prog Tryz.f83 tmps R ds st w
  | [], .returning, w, h => by
    unfold Leaves at h ⊢
    rw [results_put _ _ _ hj] at h; exact h
  | [], .panicking chain, w, h => h
  | [], .run, w, h => h
  | d :: ds, u, w, h => by
    obtain ⟨h1, fv, cap, f, args, h2, h3, h4⟩ := h
    refine ⟨h1, fv, cap, f, args, h2, h3, h4.mono ?_⟩
    intro e u' w' he
    cases e with
    | returned v' => exact leaves_put j v hj he
    | panicked c => exact leaves_put j v hj he
    | outgrown => exact he
theorem arr10_eq {cs : Array Value} {b0 b1 b2 b3 b4 b5 b6 b7 b8 b9 : Value} (h : cs.size = 10) (a0 : cs[0]? = some b0) (a1 : cs[1]? = some b1) (a2 : cs[2]? = some b2) (a3 : cs[3]? = some b3) (a4 : cs[4]? = some b4)
    (s0 : cs[5 + 0]? = some b5) (s1 : cs[5 + 1]? = some b6) (s2 : cs[5 + 2]? = some b7) (s3 : cs[5 + 3]? = some b8) (s4 : cs[5 + 4]? = some b9) : cs = #[b0, b1, b2, b3, b4, b5, b6, b7, b8, b9] := by
  obtain ⟨c0, c1, c2, c3, c4, c5, c6, c7, c8, c9, rfl⟩ := arr10 cs h
  simp at a0 a1 a2 a3 a4 s0 s1 s2 s3 s4
  subst a0 a1 a2 a3 a4 s0 s1 s2 s3 s4
  rfl
theorem Bar.row (bk : Nat) (w : World) (cs : Array Value) : Bar bk w (w.setRow bk cs) :=
  ⟨rfl, rfl, rfl, by simp, fun k hk hn => setRow_other _ _ _ _ hn⟩
def RdIn (ps : List (List UInt8)) (w W : World) (a : Value) (x : World) : Prop :=
  ∃ (k : Nat) (cs : Array Value) (done : List (List Int)), k ≤ 5 ∧ a = .int .i64 k ∧ done.length = k ∧ prsL 0 ps = (prsL k (ps.drop k)).map (fun l => done ++ l) ∧ Rd w cs 0 x ∧ cs.size = 10 ∧ Bar w.heap.size W x ∧ Fst ps (w.heap.size + 2) k cs done x
set_option maxRecDepth 100000 in
set_option maxHeartbeats 2000000 in
theorem read_any (l : List UInt8) (n : Nat) (w : World) (ht : Tb n w) (hn : n ≤ w.heap.size) (hl : l.length ≤ 300) : Calls Tryz.prog 83 #[.string ⟨l.toArray⟩] w (ReadPost (prs l) w) := by
  have hmf : ∀ (fn : Fn) (first cap : Array Value) (w : World), (Instr.makeFunc fn first cap).run Tryz.prog w = .ok (.func fn first cap) w := fun _ _ _ _ => rfl
  have R0 := Lib.hid (rd_start w)
  have T0 := Lib.hid (ht.kept (rd_start w).k)
  have hps := Lib.hid (fun t ht => (splt_mem (c := 32) l t ht).2)
  have HP := Lib.hid (show prs l = if (splt 32 l).length = 5 then (prsL 0 (splt 32 l)).map fun ls => crOf ls (splt 32 l) else none from rfl)
  clear ht
  go_enter_defers Tryz.func83, Tryz.ntmps83
  go_wp2_with fail
  generalize hx0 : (w.alloc (.cells z10 30)).alloc (.cells #[.int .i64 0] 42) = x0 at *
  have hs0 : x0.heap.size = w.heap.size + 2 := by rw [← hx0]; simp
  clear hx0
  refine (ksplit_any 32 l n _ T0.out (by omega)).mono ?_
  rintro e x1 ⟨rfl, hss, k1⟩
  have R1 := Lib.hid (R0.out.kept k1); have T1 := Lib.hid (T0.out.kept k1)
  have hs1 := k1.size
  clear R0 T0 k1
  generalize splt 32 l = ps at *
  by_cases h5 : ps.length = 5
  · have HQ := Lib.hid (show prs l = (prsL 0 ps).map fun ls => crOf ls ps by rw [HP.out, if_pos h5])
    clear HP
    generalize hO : prs l = o at *
    clear hO
    go_wp2_with fail
    refine (need_ok _ (by simp) _).mono ?_
    rintro e x2 ⟨rfl, rfl⟩
    go_wp2_with fail
    refine (fields_any _).mono ?_
    rintro e W ⟨rfl, k2⟩
    have k2s := k2.size
    have R2 := Lib.hid (R1.out.kept k2); have T2 := Lib.hid (T1.out.kept k2); have S2 := Lib.hid (hss.kept k2)
    clear R1 T1 hss k2
    have hps5 := Lib.hid h5
    have hws : w.heap.size + 2 ≤ W.heap.size := by have := k2s; omega
    clear h5
    go_wp2_with fail
    go_loopw [15] (fun a y => RdIn ps w W a y) (fun a _ => 5 - (intOf a).toNat)
    case atStart => exact ⟨0, z10, [], by omega, rfl, rfl, by simp, R2.out, rfl, Bar.refl _ _, fun j hj => absurd hj (by omega)⟩
    case round =>
      obtain ⟨k, cs, done, hk, rfl, hdl, hg, hR, h10, hB, hF⟩ := hrel
      by_cases hlt : k < 5
      · obtain ⟨p, hp⟩ : ∃ p, ps[k]? = some p := ⟨_, List.getElem?_eq_getElem (by rw [hps5.out]; exact hlt)⟩
        have hix := fun W' => index_fld W' k hlt
        have HG := Lib.hid hg; have HR := Lib.hid hR; have HB := Lib.hid hB; have HF := Lib.hid hF; have HPK := Lib.hid hp
        clear hg hR hB hF hp
        have F1 := Lib.hid (Fl.new k wr)
        have k3 := (Kept.refl wr).alloc (fldO k)
        have hwr := HB.out.size
        have S3 := Lib.hid ((S2.out.bar HB.out (by omega)).kept k3)
        have T3 := Lib.hid ((T2.out.bar hn HB.out).kept k3)
        have R3 := Lib.hid (HR.out.kept k3)
        have B3 := Lib.hid (HB.out.trans (Bar.of k3))
        have F3 := Lib.hid (show Fst ps (w.heap.size + 2) k cs done _ from fun j hj => by obtain ⟨v, a1, a2, a3⟩ := HF.out j hj; exact ⟨v, a1, a2.kept' k3, a3⟩)
        have hpl : p.length ≤ 300 := Nat.le_trans (hps.out p (List.mem_of_getElem? HPK.out)) hl
        clear HR HB HF
        go_upto_region 7 with (fail)
        generalize hX : wr.alloc (fldO k) = X at *
        have hXs : X.heap.size = wr.heap.size + 1 := by rw [← hX]; simp
        clear hX k3
        have cp := S3.out.at HPK.out
        rw [hs0] at cp
        refine wp_region_held_drew (S := fun y => y.cell? ⟨wr.heap.size, 0, none⟩ = some (.int .i64 (lo k)) ∧ y.cell? ⟨wr.heap.size, 1, none⟩ = some (.int .i64 (hi k)) ∧ y.cell? ⟨wr.heap.size, 2, none⟩ = some (.int .i64 (Crn.wr k)) ∧ y.cell? ⟨wr.heap.size, 3, none⟩ = some (.string ⟨(nms k).toArray⟩) ∧ y.cell? ⟨w.heap.size + 2, k, none⟩ = some (.string ⟨p.toArray⟩)) (by kernel_rfl) ⟨F1.out.c0, F1.out.c1, F1.out.c2, F1.out.c3, cp⟩ (fun hS0 => ?_)
        refine wpAnyH_take (i := 0) (oi := { dst := some 19, op := Go.Op.move (Go.Operand.tmp 5), type := 3, pos := "reader.go:30", after := #[], guard := none }) (v := ?va0) rfl (by kernel_rfl) (by kernel_rfl) (by kernel_rfl) (fun _ _ _ h => leaves_put _ _ (by decide) h) (Or.inl ⟨by rfl, ?ya0⟩) (by assumption) ?ra0
        case ya0 => (intro wq hSw; (try dsimp only at hSw); go_simp; try with_reducible rfl)
        simp only [Act.put, List.setIfInBounds_toArray, List.set_cons_zero, List.set_cons_succ]
        refine wpAnyH_take (i := 1) (oi := { dst := some 20, op := Go.Op.load 65 (Go.Operand.tmp 6), type := 65, pos := "reader.go:30", after := #[], guard := none }) (v := ?va1) rfl (by kernel_rfl) (by kernel_rfl) (by kernel_rfl) (fun _ _ _ h => leaves_put _ _ (by decide) h) (Or.inl ⟨by rfl, ?ya1⟩) (by assumption) ?ra1
        case ya1 => (intro wq hSw; (try dsimp only at hSw); go_simp; try with_reducible rfl)
        simp only [Act.put, List.setIfInBounds_toArray, List.set_cons_zero, List.set_cons_succ]
        refine wpAnyH_take (i := 2) (oi := { dst := some 21, op := Go.Op.move (Go.Operand.tmp 4), type := 114, pos := "reader.go:30", after := #[], guard := none }) (v := ?va2) rfl (by kernel_rfl) (by kernel_rfl) (by kernel_rfl) (fun _ _ _ h => leaves_put _ _ (by decide) h) (Or.inl ⟨by rfl, ?ya2⟩) (by assumption) ?ra2
        case ya2 => (intro wq hSw; (try dsimp only at hSw); go_simp; try with_reducible rfl)
        simp only [Act.put, List.setIfInBounds_toArray, List.set_cons_zero, List.set_cons_succ]
        refine wpAnyH_take (i := 3) (oi := { dst := some 22, op := Go.Op.move (Go.Operand.tmp 5), type := 3, pos := "reader.go:30", after := #[], guard := none }) (v := ?va3) rfl (by kernel_rfl) (by kernel_rfl) (by kernel_rfl) (fun _ _ _ h => leaves_put _ _ (by decide) h) (Or.inl ⟨by rfl, ?ya3⟩) (by assumption) ?ra3
        case ya3 => (intro wq hSw; (try dsimp only at hSw); go_simp; try with_reducible rfl)
        simp only [Act.put, List.setIfInBounds_toArray, List.set_cons_zero, List.set_cons_succ]
        refine wpAnyH_take (i := 4) (oi := { dst := some 23, op := Go.Op.indexAddr 114 (Go.Operand.tmp 21) (Go.Operand.tmp 22), type := 0, pos := "reader.go:30", after := #[{ on := 2, ground := Go.Ground.data }, { on := 3, ground := Go.Ground.data }], guard := none }) (v := ?va4) rfl (by kernel_rfl) (by kernel_rfl) (by kernel_rfl) (fun _ _ _ h => leaves_put _ _ (by decide) h) (Or.inl ⟨by rfl, ?ya4⟩) (by assumption) ?ra4
        case ya4 => (intro wq hSw; (try dsimp only at hSw); go_simp; try with_reducible rfl)
        simp only [Act.put, List.setIfInBounds_toArray, List.set_cons_zero, List.set_cons_succ]
        refine wpAnyH_take (i := 5) (oi := { dst := some 24, op := Go.Op.load 9 (Go.Operand.tmp 23), type := 9, pos := "reader.go:30", after := #[{ on := 4, ground := Go.Ground.data }], guard := none }) (v := ?va5) rfl (by kernel_rfl) (by kernel_rfl) (by kernel_rfl) (fun _ _ _ h => leaves_put _ _ (by decide) h) (Or.inl ⟨by rfl, ?ya5⟩) (by assumption) ?ra5
        case ya5 => (intro wq hSw; (try dsimp only at hSw); go_simp; try with_reducible rfl)
        simp only [Act.put, List.setIfInBounds_toArray, List.set_cons_zero, List.set_cons_succ]
        refine wpAnyH_take (i := 7) (oi := { dst := some 26, op := Go.Op.fieldAddr 30 (Go.Operand.tmp 2) 0, type := 0, pos := "reader.go:30", after := #[], guard := none }) (v := ?va7) rfl (by kernel_rfl) (by kernel_rfl) (by kernel_rfl) (fun _ _ _ h => leaves_put _ _ (by decide) h) (Or.inl ⟨by rfl, ?ya7⟩) (by assumption) ?ra7
        case ya7 => (intro wq hSw; (try dsimp only at hSw); go_simp; try with_reducible rfl)
        simp only [Act.put, List.setIfInBounds_toArray, List.set_cons_zero, List.set_cons_succ]
        refine wpAnyH_ready (rs := [6]) (by kernel_rfl) (by simp) (AllReadyH.cons (o := { dst := some 25, op := Go.Op.call { callee := Go.Callee.value (Go.Operand.func 112), args := #[Go.Operand.tmp 20, Go.Operand.tmp 24], argTypes := #[65, 9] }, type := 26, pos := "reader.go:30", after := #[{ on := 1, ground := Go.Ground.data }, { on := 5, ground := Go.Ground.data }], guard := none }) rfl (fun K hK => ?_) AllReadyH.nil)
        go_simp
        go_at_call 112; refine (part_any k p n X.drew (T3.out.kept (Kept.refl X).drew) (by show n ≤ X.heap.size; omega) hpl).mono ?_
        intro e y hpp
        have hgk := Lib.hid (prsL_snoc k HPK.out)
        rcases hr : prt k p with _ | a
        · rw [hr] at hpp
          obtain ⟨rfl, k4⟩ := hpp
          show Leaves _ _ _ (ReadPost o w) _ _ _
          rw [show o = none from by rw [HQ.out, HG.out, hgk.out, hr]; rfl]
          exact read_out h10 (R3.out.drew.kept k4) _ rfl rfl
        rw [hr] at hpp
        obtain ⟨v, rfl, ho, k4⟩ := hpp
        obtain ⟨ao, cap, rfl⟩ := ho.slice
        have k4' : Kept X y := ((Kept.refl X).drew).trans k4
        have HGK := Lib.hid (show prsL 0 ps = (prsL (k + 1) (ps.drop (k + 1))).map fun l => (done ++ [a]) ++ l by rw [HG.out, hgk.out, hr]; simp [Option.map_map, Function.comp_def])
        clear HG hgk hr k4
        have F4 := F1.out.kept k4'
        have S4 := Lib.hid (S3.out.kept k4'); have R4 := Lib.hid (R3.out.kept k4'); have B4 := Lib.hid (B3.out.trans (Bar.of k4')); have T4 := Lib.hid (T3.out.kept k4')
        have F5 := Lib.hid (show Fst ps (w.heap.size + 2) k cs done y from fun j hj => by obtain ⟨v, a1, a2, a3⟩ := F3.out j hj; exact ⟨v, a1, a2.kept' k4', a3⟩)
        have HO := Lib.hid (show KOut (w.heap.size + 2) (.slice ao a.length cap) a y from KOut.mono ho (by show w.heap.size + 2 ≤ X.heap.size; omega))
        have cp4 := S4.out.at HPK.out
        rw [hs0] at cp4
        have hy4 := k4'.size
        clear k4' ho S3 R3 B3 T3 F3
        refine Shut.out hK _ _ ⟨F4.c0, F4.c1, F4.c2, F4.c3, cp4⟩ (fun hSb => ?_)
        clear hK K
        try simp only [Act.put, List.setIfInBounds_toArray, List.set_cons_zero, List.set_cons_succ]
        refine wpAnyH_take (i := 8) (oi := { dst := some 27, op := Go.Op.indexAddr 27 (Go.Operand.tmp 26) (Go.Operand.tmp 19), type := 0, pos := "reader.go:30", after := #[{ on := 7, ground := Go.Ground.data }, { on := 0, ground := Go.Ground.data }, { on := 0, ground := Go.Ground.phase }, { on := 1, ground := Go.Ground.phase }, { on := 2, ground := Go.Ground.phase }, { on := 3, ground := Go.Ground.phase }, { on := 4, ground := Go.Ground.phase }, { on := 5, ground := Go.Ground.phase }, { on := 6, ground := Go.Ground.phase }], guard := none }) (v := ?va8) rfl (by kernel_rfl) (by kernel_rfl) (by kernel_rfl) (fun _ _ _ h => leaves_put _ _ (by decide) h) (Or.inl ⟨by rfl, ?ya8⟩) (by assumption) ?ra8
        case ya8 => (intro wq hSw; (try dsimp only at hSw); go_simp; try with_reducible rfl)
        simp only [Act.put, List.setIfInBounds_toArray, List.set_cons_zero, List.set_cons_succ]
        obtain ⟨old, hold⟩ : ∃ old, cs[k]? = some old := ⟨_, Array.getElem?_eq_getElem (by omega)⟩
        have ck := cell_of R4.out.b0 hold
        have gk := fro_of R4.out.b0 k
        have R5 := Lib.hid (R4.out.putc k (.slice ao a.length cap))
        have hset : ∀ j c, c ≠ w.heap.size → (y.setCell ⟨w.heap.size, k, none⟩ (.slice ao a.length cap)).cell? ⟨c, j, none⟩ = y.cell? ⟨c, j, none⟩ := fun j c hc => by unfold World.cell?; rw [Below.heap_setCell _ _ _ _ hc]
        have S5 := Lib.hid (show Ss (w.heap.size + 2) ps (y.setCell ⟨w.heap.size, k, none⟩ (.slice ao a.length cap)) from (hs0 ▸ S4.out).bar ((Bar.refl w.heap.size y).set k (.slice ao a.length cap)) (by omega))
        have B5 := Lib.hid (B4.out.set k (.slice ao a.length cap))
        refine wpAnyH_ready (rs := [9]) (by kernel_rfl) (by simp) (AllReadyH.cons (o := { dst := none, op := Go.Op.store 26 (Go.Operand.tmp 27) (Go.Operand.tmp 25), type := 0, pos := "reader.go:30", after := #[{ on := 8, ground := Go.Ground.data }, { on := 6, ground := Go.Ground.data }, { on := 6, ground := Go.Ground.chain }, { on := 0, ground := Go.Ground.phase }, { on := 1, ground := Go.Ground.phase }, { on := 2, ground := Go.Ground.phase }, { on := 3, ground := Go.Ground.phase }, { on := 4, ground := Go.Ground.phase }, { on := 5, ground := Go.Ground.phase }, { on := 6, ground := Go.Ground.phase }], guard := none }) rfl (fun K hK => ?_) AllReadyH.nil)
        go_simp
        refine Shut.out hK _ _ ⟨(hset _ _ (by omega)).trans F4.c0, (hset _ _ (by omega)).trans F4.c1, (hset _ _ (by omega)).trans F4.c2, (hset _ _ (by omega)).trans F4.c3, (hset _ _ (by omega)).trans cp4⟩ (fun hSb => ?_)
        clear hK K
        try simp only [Act.put, List.setIfInBounds_toArray, List.set_cons_zero, List.set_cons_succ]
        refine wpAnyH_done (by kernel_rfl) ?_ _
        have F6 := Lib.hid (show Fst ps (w.heap.size + 2) k (cs.setIfInBounds k (.slice ao a.length cap)) done (y.setCell ⟨w.heap.size, k, none⟩ (.slice ao a.length cap)) from fun j hj => by
          obtain ⟨v, a1, a2, a3⟩ := F5.out j hj
          exact ⟨v, by rw [Array.getElem?_setIfInBounds_ne (by omega)]; exact a1, a2.bar ((Bar.refl w.heap.size y).set k _) (by omega), by rw [Array.getElem?_setIfInBounds_ne (by omega)]; exact a3⟩)
        have HO6 := Lib.hid (HO.out.bar ((Bar.refl w.heap.size y).set k (.slice ao a.length cap)) (by omega))
        have hkk : (cs.setIfInBounds k (.slice ao a.length cap))[k]? = some (.slice ao a.length cap) := by rw [Array.getElem?_setIfInBounds_self_of_lt (by omega)]
        have h106 : (cs.setIfInBounds k (.slice ao a.length cap)).size = 10 := by simpa using h10
        have cp6 := S5.out.at HPK.out
        clear ck gk hset F4 F5 HO cp cp4 R4 B4 S4 T4 hold hSb hS0
        generalize y.setCell ⟨w.heap.size, k, none⟩ (.slice ao a.length cap) = z at *
        generalize cs.setIfInBounds k (.slice ao a.length cap) = cs6 at *
        obtain ⟨old2, hold2⟩ : ∃ old, cs6[5 + k]? = some old := ⟨_, Array.getElem?_eq_getElem (by omega)⟩
        have c5 := cell_of R5.out.b0 hold2
        have g5 := fro_of R5.out.b0 (5 + k)
        have hfin : ∀ b : Bool, b = decide (p = [42]) → RdIn ps w W (.int .i64 ((k : Int) + 1)) (z.setCell ⟨w.heap.size, 5 + k, none⟩ (.bool b)) := by
          intro b hb
          refine ⟨k + 1, cs6.setIfInBounds (5 + k) (.bool b), done ++ [a], by omega, by go_num, by simp [hdl], HGK.out, R5.out.putc _ _, by simpa using h106, B5.out.set _ _, fun j hj => ?_⟩
          by_cases hjk : j = k
          · subst hjk
            refine ⟨_, by rw [Array.getElem?_setIfInBounds_ne (by omega)]; exact hkk, ?_, ?_⟩
            · rw [show (done ++ [a]).getD j [] = a by rw [← hdl]; simp]
              exact HO6.out.bar ((Bar.refl w.heap.size z).set _ _) (by omega)
            · rw [Array.getElem?_setIfInBounds_self_of_lt (by omega), hb]
              rw [show ps.getD j [] = p by simp [List.getD, HPK.out]]
          · obtain ⟨v, a1, a2, a3⟩ := F6.out j (by omega)
            refine ⟨v, by rw [Array.getElem?_setIfInBounds_ne (by omega)]; exact a1, ?_, by rw [Array.getElem?_setIfInBounds_ne (by omega)]; exact a3⟩
            rw [show (done ++ [a]).getD j [] = done.getD j [] by simp [List.getD, List.getElem?_append_left (show j < done.length by omega)]]
            exact a2.bar ((Bar.refl w.heap.size z).set _ _) (by omega)
        have HFin := Lib.hid hfin
        clear hfin hkk F6 HO6 HGK
        by_cases h42 : p = [42]
        · have hb := Lib.hid (decide_eq_true h42)
          rw [h42] at cp6
          go_wp2
          go_roundw
          case rel => exact HFin.out _ (by rw [hb.out])
          case measure => simp [intOf]; omega
        · have hb := Lib.hid (decide_eq_false h42)
          have h42' : (p == [42]) = false := beq_eq_false_iff_ne.2 h42
          have h42b : ¬ (⟨p.toArray⟩ : ByteArray) = ⟨#[42]⟩ := fun e => h42 (by injection e with e; injection e)
          go_wp2
          go_roundw
          case rel => exact HFin.out _ (by rw [hb.out])
          case measure => simp [intOf]; omega
      · obtain rfl : k = 5 := by omega
        have hg5 := hps5.out
        have hpg : prsL 0 ps = some done := by rw [hg, List.drop_eq_nil_of_le (by omega)]; simp [prsL]
        have HO := Lib.hid (show o = some (crOf done ps) by rw [HQ.out, hpg]; rfl)
        clear hg hpg HQ
        obtain ⟨v0, a0, o0, s0⟩ := hF 0 (by omega)
        obtain ⟨ao0, cap0, rfl⟩ := o0.slice
        obtain ⟨v1, a1, o1, s1⟩ := hF 1 (by omega)
        obtain ⟨ao1, cap1, rfl⟩ := o1.slice
        obtain ⟨v2, a2, o2, s2⟩ := hF 2 (by omega)
        obtain ⟨ao2, cap2, rfl⟩ := o2.slice
        obtain ⟨v3, a3, o3, s3⟩ := hF 3 (by omega)
        obtain ⟨ao3, cap3, rfl⟩ := o3.slice
        obtain ⟨v4, a4, o4, s4⟩ := hF 4 (by omega)
        obtain ⟨ao4, cap4, rfl⟩ := o4.slice
        have hcs := arr10_eq h10 a0 a1 a2 a3 a4 s0 s1 s2 s3 s4
        subst hcs
        generalize hd0 : done.getD 0 [] = d0 at *
        have HD0 := Lib.hid hd0; clear hd0
        generalize hd1 : done.getD 1 [] = d1 at *
        have HD1 := Lib.hid hd1; clear hd1
        generalize hd2 : done.getD 2 [] = d2 at *
        have HD2 := Lib.hid hd2; clear hd2
        generalize hd3 : done.getD 3 [] = d3 at *
        have HD3 := Lib.hid hd3; clear hd3
        generalize hd4 : done.getD 4 [] = d4 at *
        have HD4 := Lib.hid hd4; clear hd4
        generalize hm0 : decide (ps.getD 0 [] = [42]) = m0 at *
        have HM0 := Lib.hid hm0; clear hm0
        generalize hm1 : decide (ps.getD 1 [] = [42]) = m1 at *
        have HM1 := Lib.hid hm1; clear hm1
        generalize hm2 : decide (ps.getD 2 [] = [42]) = m2 at *
        have HM2 := Lib.hid hm2; clear hm2
        generalize hm3 : decide (ps.getD 3 [] = [42]) = m3 at *
        have HM3 := Lib.hid hm3; clear hm3
        generalize hm4 : decide (ps.getD 4 [] = [42]) = m4 at *
        have HM4 := Lib.hid hm4; clear hm4
        have R3 := Lib.hid hR
        have R4 := Lib.hid (hR.setRow #[.slice ao0 d0.length cap0, .slice ao1 d1.length cap1, .slice ao2 d2.length cap2, .slice ao3 d3.length cap3, .slice ao4 d4.length cap4, .bool m0, .bool m1, .bool m2, .bool m3, .bool m4])
        clear hR h10 a0 a1 a2 a3 a4 s0 s1 s2 s3 s4 hF
        have HB := Lib.hid hB; clear hB
        have o0' := o0.bar (Bar.row w.heap.size wr #[.slice ao0 d0.length cap0, .slice ao1 d1.length cap1, .slice ao2 d2.length cap2, .slice ao3 d3.length cap3, .slice ao4 d4.length cap4, .bool m0, .bool m1, .bool m2, .bool m3, .bool m4]) (by omega)
        have o1' := o1.bar (Bar.row w.heap.size wr #[.slice ao0 d0.length cap0, .slice ao1 d1.length cap1, .slice ao2 d2.length cap2, .slice ao3 d3.length cap3, .slice ao4 d4.length cap4, .bool m0, .bool m1, .bool m2, .bool m3, .bool m4]) (by omega)
        have o2' := o2.bar (Bar.row w.heap.size wr #[.slice ao0 d0.length cap0, .slice ao1 d1.length cap1, .slice ao2 d2.length cap2, .slice ao3 d3.length cap3, .slice ao4 d4.length cap4, .bool m0, .bool m1, .bool m2, .bool m3, .bool m4]) (by omega)
        have o3' := o3.bar (Bar.row w.heap.size wr #[.slice ao0 d0.length cap0, .slice ao1 d1.length cap1, .slice ao2 d2.length cap2, .slice ao3 d3.length cap3, .slice ao4 d4.length cap4, .bool m0, .bool m1, .bool m2, .bool m3, .bool m4]) (by omega)
        have o4' := o4.bar (Bar.row w.heap.size wr #[.slice ao0 d0.length cap0, .slice ao1 d1.length cap1, .slice ao2 d2.length cap2, .slice ao3 d3.length cap3, .slice ao4 d4.length cap4, .bool m0, .bool m1, .bool m2, .bool m3, .bool m4]) (by omega)
        have e1 := cell_of (j := 0) R4.out.b1 rfl
        have g1 := fro_of R4.out.b1 0
        have R5 := Lib.hid (R4.out.pute 0)
        have b5 := (Bar.refl (w.heap.size + 1) (wr.setRow w.heap.size #[.slice ao0 d0.length cap0, .slice ao1 d1.length cap1, .slice ao2 d2.length cap2, .slice ao3 d3.length cap3, .slice ao4 d4.length cap4, .bool m0, .bool m1, .bool m2, .bool m3, .bool m4])).set 0 (.int .i64 0)
        have q0 := (o0'.bar b5 (by omega)).mono (show w.heap.size ≤ w.heap.size + 2 by omega)
        have q1 := (o1'.bar b5 (by omega)).mono (show w.heap.size ≤ w.heap.size + 2 by omega)
        have q2 := (o2'.bar b5 (by omega)).mono (show w.heap.size ≤ w.heap.size + 2 by omega)
        have q3 := (o3'.bar b5 (by omega)).mono (show w.heap.size ≤ w.heap.size + 2 by omega)
        have q4 := (o4'.bar b5 (by omega)).mono (show w.heap.size ≤ w.heap.size + 2 by omega)
        clear b5 o0 o1 o2 o3 o4 o0' o1' o2' o3' o4'
        go_wp2_with (first | refine wpList_load_row rfl 30 _ rfl w.heap.size rfl 30 _ (0, 0) _ R3.out.b0 Tryz.underlying30 rfl (by kernel_rfl) ?_ | refine wpList_store_row rfl 30 _ _ rfl w.heap.size _ rfl rfl 30 _ R3.out.b0 (by kernel_rfl) rfl (by simp [Value.oneCell']) ?_)
        show Leaves _ _ _ (ReadPost o w) _ _ _
        rw [HO.out]
        refine read_done (sl := fun i => match i with | 0 => .slice ao0 d0.length cap0 | 1 => .slice ao1 d1.length cap1 | 2 => .slice ao2 d2.length cap2 | 3 => .slice ao3 d3.length cap3 | _ => .slice ao4 d4.length cap4) (by dsimp only [cr10, crOf]; rw [HM0.out, HM1.out, HM2.out, HM3.out, HM4.out]; rfl) R5.out (fun i hi => ?_) _ rfl rfl
        rcases (show i = 0 ∨ i = 1 ∨ i = 2 ∨ i = 3 ∨ i = 4 by omega) with rfl | rfl | rfl | rfl | rfl
        · show KOut _ _ (done.getD 0 []) _
          rw [HD0.out]; exact q0
        · show KOut _ _ (done.getD 1 []) _
          rw [HD1.out]; exact q1
        · show KOut _ _ (done.getD 2 []) _
          rw [HD2.out]; exact q2
        · show KOut _ _ (done.getD 3 []) _
          rw [HD3.out]; exact q3
        · show KOut _ _ (done.getD 4 []) _
          rw [HD4.out]; exact q4
  · have HQ := Lib.hid (show prs l = none by rw [HP.out, if_neg h5])
    clear HP
    go_wp2_with fail
    refine (need_not _ (by simp; omega) _).mono ?_
    rintro e x2 ⟨rfl, rfl⟩
    show Leaves _ _ _ (ReadPost (prs l) w) _ _ _
    rw [HQ.out]
    exact read_out (cs := z10) rfl R1.out _ rfl rfl
def perr (l : List UInt8) : Int := if 200 < l.length then 4 else match prs l with | none => 2 | some _ => 0
/-- what a text is parsed as -/
def ParsePost (l : List UInt8) (w : World) (e : Ending) (w' : World) : Prop :=
  if 200 < l.length then e = .returned (.tuple #[.agg z10, .int .i64 4]) ∧ Kept w w' else ReadPost (prs l) w e w'
theorem parse_results (n : Nat) (cs : Array Value) (e : Int) (tmps : Array Value) (x : World) (h10 : cs.size = 10) (h2 : tmps[2]? = some (.pointer (some ⟨n, 0, none⟩))) (h3 : tmps[3]? = some (.int .i64 e))
    (b0 : x.heap[n]? = some (.cells cs 30)) : (results Tryz.f55 tmps).run Tryz.prog x = .ok (.tuple #[.agg cs, .int .i64 e]) x := by
  obtain ⟨a0, a1, a2, a3, a4, a5, a6, a7, a8, a9, rfl⟩ := arr10 cs h10
  have d0 := cell_of (j := 0) b0 rfl
  have d1 := cell_of (j := 1) b0 rfl
  have d2 := cell_of (j := 2) b0 rfl
  have d3 := cell_of (j := 3) b0 rfl
  have d4 := cell_of (j := 4) b0 rfl
  have d5 := cell_of (j := 5) b0 rfl
  have d6 := cell_of (j := 6) b0 rfl
  have d7 := cell_of (j := 7) b0 rfl
  have d8 := cell_of (j := 8) b0 rfl
  have d9 := cell_of (j := 9) b0 rfl
  clear b0 h10
  simp [results, Tryz.results55, go_sem, *]
theorem cr_one (sl : Nat → Value) (st : Nat → Bool) (q0 : (sl 0).oneCell' = true) (q1 : (sl 1).oneCell' = true) (q2 : (sl 2).oneCell' = true) (q3 : (sl 3).oneCell' = true) (q4 : (sl 4).oneCell' = true) : (cr10 sl st).all (·.oneCell') = true := by
  have hb : ∀ b, (Value.bool b).oneCell' = true := fun _ => rfl
  simp [q0, q1, q2, q3, q4, hb]
theorem sl_one {B : Nat} {x : World} {v : Value} {l : List Int} (h : KOut B v l x) : v.oneCell' = true := by
  obtain ⟨ad, c, rfl⟩ := h.slice; rfl
set_option maxRecDepth 100000 in
set_option maxHeartbeats 1000000 in
theorem parse_any (l : List UInt8) (n : Nat) (w : World) (ht : Tb n w) (hn : n ≤ w.heap.size) (hl : l.length ≤ 10000) : Calls Tryz.prog 55 #[.string ⟨l.toArray⟩] w (ParsePost l w) := by
  have hb := Lib.hid (new_block w (.cells z10 30))
  have kb := Lib.hid ((Kept.refl w).alloc (.cells z10 30))
  have hlt := Lib.hid (show w.heap.size < (w.alloc (.cells z10 30)).heap.size by simp)
  have T1 := Lib.hid (ht.kept kb.out)
  by_cases h2 : 200 < l.length
  · unfold ParsePost
    simp only [if_pos h2]
    go_enter Tryz.func55, Tryz.ntmps55
    go_upto_region 2 with (fail)
    generalize w.alloc (.cells z10 30) = x at *
    go_wp2_with (refine wpList_store_row rfl 30 _ _ rfl w.heap.size _ rfl rfl 30 _ hb.out (by kernel_rfl) rfl (by simp [Value.oneCell']) ?_)
    exact bodyPost_ret (v := .tuple #[.agg z10, .int .i64 4]) (parse_results w.heap.size z10 4 _ _ rfl rfl rfl (setRow_heap _ _ _ _ _ _ hb.out)) rfl ⟨rfl, kb.out.setRow (Nat.le_refl _) _⟩
  · unfold ParsePost
    simp only [if_neg h2]
    go_enter Tryz.func55, Tryz.ntmps55
    go_upto_region 3 with (fail)
    generalize w.alloc (.cells z10 30) = x at *
    go_wp2_with fail
    refine (read_any l n _ T1.out (by have := hlt.out; omega) (by omega)).mono ?_
    intro e x1 hp
    have hxw : w.heap.size < x.heap.size := hlt.out
    generalize hO : prs l = o at *
    rcases o with _ | c
    · obtain ⟨rfl, k1⟩ := hp
      have HO := Lib.hid hO; clear hO
      have hb1 := Lib.hid ((k1.block _ hlt.out).trans hb.out)
      have kb1 := Lib.hid (kb.out.trans k1)
      clear k1 hb kb
      go_wp2_with (refine wpList_store_row rfl 30 _ _ rfl w.heap.size _ rfl rfl 30 _ hb1.out (by kernel_rfl) rfl (by simp [Value.oneCell']) ?_)
      refine bodyPost_ret (v := .tuple #[.agg z10, .int .i64 2]) (parse_results w.heap.size z10 2 _ _ rfl rfl rfl (setRow_heap _ _ _ _ _ _ hb1.out)) rfl ?_
      rw [HO.out]
      exact ⟨rfl, kb1.out.setRow (Nat.le_refl _) _⟩
    · obtain ⟨sl, rfl, hs, k1⟩ := hp
      have HO := Lib.hid hO; clear hO
      have hb1 := Lib.hid ((k1.block _ hlt.out).trans hb.out)
      have kb1 := Lib.hid (kb.out.trans k1)
      have q0 := sl_one (hs 0 (by omega)); have q1 := sl_one (hs 1 (by omega)); have q2 := sl_one (hs 2 (by omega)); have q3 := sl_one (hs 3 (by omega)); have q4 := sl_one (hs 4 (by omega))
      clear k1 hb kb
      have HS := Lib.hid hs; clear hs
      go_wp2_with (refine wpList_store_row rfl 30 _ _ rfl w.heap.size _ rfl rfl 30 _ hb1.out (by kernel_rfl) rfl (cr_one sl c.st q0 q1 q2 q3 q4) ?_)
      refine bodyPost_ret (v := .tuple #[crV sl c.st, .int .i64 0]) (parse_results w.heap.size (cr10 sl c.st) 0 _ _ rfl rfl rfl (setRow_heap _ _ _ _ _ _ hb1.out)) rfl ?_
      rw [HO.out]
      exact ⟨sl, rfl, fun i hi => ((HS.out i hi).bar (Bar.row _ _ _) (by omega)).mono (by omega), kb1.out.setRow (Nat.le_refl _) _⟩
end Go.Proofs.YtilgamjahediiaaGreatDoor
