/- Several texts of this seat, one behind the other. -/
import Derived.Test.YtilgamjahediiaaGreatDoorFrSrch
import Derived.Test.YtilgamjahediiaaGreatDoorFrQr
/- Contracts of package fire: the search for the first second: by times. -/
set_option linter.unusedVariables false
namespace Go.Proofs.YtilgamjahediiaaGreatDoor
open Go.ChangeShapes Go.WideShapes Go.ChangeAt Go.RowKit Go.Shelf
open Civ Zn Lc Crn
attribute [local go_sem] Oper.semAt_some
/-- a pointer in a block of its own -/
def Bp (p b : Nat) (x : World) : Prop := x.heap[p]? = some (.cells #[.pointer (some ⟨b, 0, none⟩)] 87)
theorem Bp.lt {p b : Nat} {x : World} (h : Bp p b x) : p < x.heap.size := (Array.getElem?_eq_some_iff.1 h).1
theorem Bp.c {p b : Nat} {x : World} (h : Bp p b x) : x.cell? ⟨p, 0, none⟩ = some (.pointer (some ⟨b, 0, none⟩)) := cell_of h rfl
theorem Bp.kept {p b : Nat} {x y : World} (h : Bp p b x) (k : Kept x y) : Bp p b y := (k.block _ h.lt).trans h
theorem Bp.save {p b : Nat} {x y : World} {M : Nat → Prop} (h : Bp p b x) (k : Save M x y) (hm : ¬ M p) : Bp p b y := k.at h hm
set_option maxRecDepth 100000 in
theorem tt_cells {p b d1 : Nat} {z : Zo} {c : CR} {sl : Nat → Value} {fr V fo ls ms : Int} {y : World} (hp : Bp p b y) (h1 : Bi d1 ls y) (h2 : Bi (d1 + 1) ms y) (h : Sx b z sl c.st fr V fo y) : y.cell? ⟨p, 0, none⟩ = some (.pointer (some ⟨b, 0, none⟩)) ∧ y.cell? ⟨d1, 0, none⟩ = some (.int .i64 ls) ∧ y.cell? ⟨d1 + 1, 0, none⟩ = some (.int .i64 ms) ∧ y.cell? ⟨b, 15, none⟩ = some (sl 0) ∧ y.cell? ⟨b, 16, none⟩ = some (sl 1) ∧ y.cell? ⟨b, 17, none⟩ = some (sl 2) ∧ y.cell? ⟨b, 18, none⟩ = some (sl 3) ∧ y.cell? ⟨b, 19, none⟩ = some (sl 4) ∧ y.cell? ⟨b, 20, none⟩ = some (.bool (c.st 0)) ∧ y.cell? ⟨b, 21, none⟩ = some (.bool (c.st 1)) ∧ y.cell? ⟨b, 22, none⟩ = some (.bool (c.st 2)) ∧ y.cell? ⟨b, 23, none⟩ = some (.bool (c.st 3)) ∧ y.cell? ⟨b, 24, none⟩ = some (.bool (c.st 4)) ∧ y.cell? ⟨b, 25, none⟩ = some (.int .i64 fr) ∧ y.cell? ⟨b, 26, none⟩ = some (.int .i64 V) :=
  ⟨hp.c, h1.c, h2.c, cell_of h rfl, cell_of h rfl, cell_of h rfl, cell_of h rfl, cell_of h rfl, cell_of h rfl, cell_of h rfl, cell_of h rfl, cell_of h rfl, cell_of h rfl, cell_of h rfl, cell_of h rfl⟩
theorem then_only {K : Act → World → Prop} {Q : Exit → Act → World → Prop} : ∀ e a w, Exit.then K (fun _ _ _ => False) e a w → Exit.then K Q e a w := by
  intro e a w h
  cases e <;> first | exact h | exact h.elim
set_option maxRecDepth 100000 in
set_option maxHeartbeats 8000000 in
theorem tryTimes_any (z : Zo) (c : CR) (sl : Nat → Value) (b : Nat) (fr U V fo : Int) (w0 w : World) (hc : Cr w0 sl c.L) (hk : Kept w0 w) (hb : w0.heap.size ≤ b) (hm : mayC c = true) (hz : mayZ z = true) (hS : Sx b z sl c.st fr V fo w) (hi : SInv z c fr U V fo) (f1 : 86400 ≤ fr) (f3 : U ≤ 253402214400) (f4 : -1000000 ≤ V) (f5 : fr ≤ 253402214400) :
    Calls Tryz.prog 74 #[.pointer (some ⟨b, 0, none⟩)] w fun e w' => (∃ v, e = .returned v) ∧ (∃ up fo, Sx b z sl c.st fr up fo w' ∧ SInv z c fr U up fo ∧ up ≤ V ∧ (∀ n, fr + lsZ z ≤ n → n ≤ V + msZ z → slot c n = true → (Not6 z c fr up (n - msZ z) ∧ Not6 z c fr up (n - lsZ z)) ∨ up < n - msZ z)) ∧ Save (fun k => k = b) w w' := by
  have HC := Lib.hid hc; have HK := Lib.hid hk; have HS := Lib.hid hS; have HI := Lib.hid hi; have HMC := Lib.hid hm
  have hVU := sinv_up hi
  obtain ⟨l1, l2⟩ := lsms_bd hz
  have l3 := ls_ms z
  have P0 : Bp w.heap.size b (w.alloc (.cells #[.pointer (some ⟨b, 0, none⟩)] 87)) := new_block w _
  have K0 := (Kept.refl w).alloc (.cells #[.pointer (some ⟨b, 0, none⟩)] 87)
  clear hc hk hm hz hi
  refine (callsIn_wide (n := 9)).1 ?_
  refine callsIn_of_wp_marks Tryz.func74 rfl trivial ?_ rfl
  simp only [Tryz.ntmps74, List.size_toArray, List.length_cons, List.length_nil, Nat.reduceAdd, Nat.reduceSub, Array.replicate_succ, Array.replicate_zero, List.push_toArray, List.append_toArray, List.nil_append, List.cons_append]
  gi_upto_region 1 with (fail)
  generalize w.alloc (.cells #[.pointer (some ⟨b, 0, none⟩)] 87) = x at *
  have S1 := Lib.hid (HS.out.kept K0)
  have hbl := HS.out.lt
  have hpl := P0.lt
  have P1 := Lib.hid P0; have K1 := Lib.hid K0
  have ap := P0.c
  obtain ⟨a0, a1, a2, a3, a4, a5, a6, a7, a8, a9, a10, a11, a12, a13, a14, a15, a16, a17, a18, a19, a20, a21, a22, a23, a24, a25, a26, a27⟩ := S1.out.cells
  clear a15 a16 a17 a18 a19 a20 a21 a22 a23 a24 a25 a26 a27 P0 K0 hS
  have ZO := Lib.hid (fun w => zoffs_any z w)
  gi_upto_region 2 with (refine ⟨trivial, ?_⟩; gi_at_call 97; refine (callsIn_wide.2 (ZO.out _)).mono ?_; rintro e x1 ⟨rfl, k1⟩)
  have hd1 := k1.size
  have b1 := bi_new x1 (lsZ z)
  have k2 := k1.trans ((Kept.refl x1).alloc (.cells #[.int .i64 (lsZ z)] 3))
  generalize hx2 : x1.alloc (.cells #[.int .i64 (lsZ z)] 3) = x2 at *
  have hs2 : x2.heap.size = x1.heap.size + 1 := by rw [← hx2]; simp
  clear hx2
  have b2 := bi_new x2 (msZ z)
  rw [hs2] at b2
  have k3 := (Kept.refl x2).alloc (.cells #[.int .i64 (msZ z)] 3)
  generalize x2.alloc (.cells #[.int .i64 (msZ z)] 3) = x3 at *
  have L3 := Lib.hid (b1.kept k3); have M3 := Lib.hid b2
  have S3 := Lib.hid ((S1.out.kept k2).kept k3); have P3 := Lib.hid ((P1.out.kept k2).kept k3); have K3 := Lib.hid ((K1.out.trans k2).trans k3)
  generalize x1.heap.size = d1 at *
  clear b1 b2 k1 k2 k3 S1 P1 K1 hs2 ap a0 a1 a2 a3 a4 a5 a6 a7 a8 a9 a10 a11 a12 a13 a14 x2 x1
  have HAT := Lib.hid (fun (up fo : Int) (w : World) (h1 : up ≤ V) (h2 : SInv z c fr U up fo) => @all_tried z c fr U V up w)
  clear HAT
  generalize hls : lsZ z = ls at *
  generalize hms : msZ z = ms at *
  have HLS := Lib.hid hls; have HMS := Lib.hid hms
  clear hls hms
  clear ZO
  have hw1 : IntKind.i64.wrap (fr + ls) = fr + ls := by simp only [IntKind.wrap_i64]; omega
  have hw2 : IntKind.i64.wrap (V + ms) = V + ms := by simp only [IntKind.wrap_i64]; omega
  refine wpIn_mono (wpIn_wide.2 ?_) then_only
  have KD := Lib.hid ((Kept.refl x3).drew)
  refine wp_region_held_drew (S := (fun y => y.cell? ⟨w.heap.size, 0, none⟩ = some (.pointer (some ⟨b, 0, none⟩)) ∧ y.cell? ⟨d1, 0, none⟩ = some (.int .i64 ls) ∧ y.cell? ⟨d1 + 1, 0, none⟩ = some (.int .i64 ms) ∧ y.cell? ⟨b, 15, none⟩ = some (sl 0) ∧ y.cell? ⟨b, 16, none⟩ = some (sl 1) ∧ y.cell? ⟨b, 17, none⟩ = some (sl 2) ∧ y.cell? ⟨b, 18, none⟩ = some (sl 3) ∧ y.cell? ⟨b, 19, none⟩ = some (sl 4) ∧ y.cell? ⟨b, 20, none⟩ = some (.bool (c.st 0)) ∧ y.cell? ⟨b, 21, none⟩ = some (.bool (c.st 1)) ∧ y.cell? ⟨b, 22, none⟩ = some (.bool (c.st 2)) ∧ y.cell? ⟨b, 23, none⟩ = some (.bool (c.st 3)) ∧ y.cell? ⟨b, 24, none⟩ = some (.bool (c.st 4)) ∧ y.cell? ⟨b, 25, none⟩ = some (.int .i64 fr) ∧ y.cell? ⟨b, 26, none⟩ = some (.int .i64 V))) (by kernel_rfl) (tt_cells (P3.out.kept KD.out) (L3.out.kept KD.out) (M3.out.kept KD.out) (S3.out.kept KD.out)) (fun hS0 => ?_)
  refine wpAnyH_take (i := 0) (oi := { dst := some 13, op := Go.Op.load 87 (Go.Operand.tmp 1), type := 87, pos := "search.go:50", after := #[], guard := none }) (v := ?vu0) rfl (by kernel_rfl) (by kernel_rfl) (by kernel_rfl) (fun _ _ _ h => h) (Or.inl ⟨by rfl, ?yu0⟩) (by assumption) ?ru0
  case yu0 => (intro wq hSw; (try dsimp only at hSw); go_simp; try with_reducible rfl)
  simp only [Act.put, List.setIfInBounds_toArray, List.set_cons_zero, List.set_cons_succ]
  refine wpAnyH_take (i := 1) (oi := { dst := some 14, op := Go.Op.nilCheck (Go.Operand.tmp 13), type := 0, pos := "search.go:50", after := #[{ on := 0, ground := Go.Ground.data }], guard := none }) (v := ?vu1) rfl (by kernel_rfl) (by kernel_rfl) (by kernel_rfl) (fun _ _ _ h => h) (Or.inl ⟨by rfl, ?yu1⟩) (by assumption) ?ru1
  case yu1 => (intro wq hSw; (try dsimp only at hSw); go_simp; try with_reducible rfl)
  simp only [Act.put, List.setIfInBounds_toArray, List.set_cons_zero, List.set_cons_succ]
  refine wpAnyH_take (i := 2) (oi := { dst := some 15, op := Go.Op.fieldAddr 89 (Go.Operand.tmp 14) 1, type := 0, pos := "search.go:50", after := #[{ on := 1, ground := Go.Ground.data }], guard := none }) (v := ?vu2) rfl (by kernel_rfl) (by kernel_rfl) (by kernel_rfl) (fun _ _ _ h => h) (Or.inl ⟨by rfl, ?yu2⟩) (by assumption) ?ru2
  case yu2 => (intro wq hSw; (try dsimp only at hSw); go_simp; try with_reducible rfl)
  simp only [Act.put, List.setIfInBounds_toArray, List.set_cons_zero, List.set_cons_succ]
  refine wpAnyH_take (i := 3) (oi := { dst := some 16, op := Go.Op.load 30 (Go.Operand.tmp 15), type := 30, pos := "search.go:50", after := #[{ on := 2, ground := Go.Ground.data }], guard := none }) (v := ?vu3) rfl (by kernel_rfl) (by kernel_rfl) (by kernel_rfl) (fun _ _ _ h => h) (Or.inl ⟨by rfl, ?yu3⟩) (by assumption) ?ru3
  case yu3 => (intro wq hSw; (try dsimp only at hSw); go_simp; try with_reducible rfl)
  simp only [Act.put, List.setIfInBounds_toArray, List.set_cons_zero, List.set_cons_succ]
  refine wpAnyH_take (i := 4) (oi := { dst := some 17, op := Go.Op.load 87 (Go.Operand.tmp 1), type := 87, pos := "search.go:50", after := #[], guard := none }) (v := ?vu4) rfl (by kernel_rfl) (by kernel_rfl) (by kernel_rfl) (fun _ _ _ h => h) (Or.inl ⟨by rfl, ?yu4⟩) (by assumption) ?ru4
  case yu4 => (intro wq hSw; (try dsimp only at hSw); go_simp; try with_reducible rfl)
  simp only [Act.put, List.setIfInBounds_toArray, List.set_cons_zero, List.set_cons_succ]
  refine wpAnyH_take (i := 5) (oi := { dst := some 18, op := Go.Op.nilCheck (Go.Operand.tmp 17), type := 0, pos := "search.go:50", after := #[{ on := 4, ground := Go.Ground.data }], guard := none }) (v := ?vu5) rfl (by kernel_rfl) (by kernel_rfl) (by kernel_rfl) (fun _ _ _ h => h) (Or.inl ⟨by rfl, ?yu5⟩) (by assumption) ?ru5
  case yu5 => (intro wq hSw; (try dsimp only at hSw); go_simp; try with_reducible rfl)
  simp only [Act.put, List.setIfInBounds_toArray, List.set_cons_zero, List.set_cons_succ]
  refine wpAnyH_take (i := 6) (oi := { dst := some 19, op := Go.Op.fieldAddr 89 (Go.Operand.tmp 18) 2, type := 0, pos := "search.go:50", after := #[{ on := 5, ground := Go.Ground.data }], guard := none }) (v := ?vu6) rfl (by kernel_rfl) (by kernel_rfl) (by kernel_rfl) (fun _ _ _ h => h) (Or.inl ⟨by rfl, ?yu6⟩) (by assumption) ?ru6
  case yu6 => (intro wq hSw; (try dsimp only at hSw); go_simp; try with_reducible rfl)
  simp only [Act.put, List.setIfInBounds_toArray, List.set_cons_zero, List.set_cons_succ]
  refine wpAnyH_take (i := 7) (oi := { dst := some 20, op := Go.Op.load 3 (Go.Operand.tmp 19), type := 3, pos := "search.go:50", after := #[{ on := 6, ground := Go.Ground.data }], guard := none }) (v := ?vu7) rfl (by kernel_rfl) (by kernel_rfl) (by kernel_rfl) (fun _ _ _ h => h) (Or.inl ⟨by rfl, ?yu7⟩) (by assumption) ?ru7
  case yu7 => (intro wq hSw; (try dsimp only at hSw); go_simp; try with_reducible rfl)
  simp only [Act.put, List.setIfInBounds_toArray, List.set_cons_zero, List.set_cons_succ]
  refine wpAnyH_take (i := 8) (oi := { dst := some 21, op := Go.Op.load 3 (Go.Operand.tmp 2), type := 3, pos := "search.go:50", after := #[], guard := none }) (v := ?vu8) rfl (by kernel_rfl) (by kernel_rfl) (by kernel_rfl) (fun _ _ _ h => h) (Or.inl ⟨by rfl, ?yu8⟩) (by assumption) ?ru8
  case yu8 => (intro wq hSw; (try dsimp only at hSw); go_simp; try with_reducible rfl)
  simp only [Act.put, List.setIfInBounds_toArray, List.set_cons_zero, List.set_cons_succ]
  refine wpAnyH_take (i := 9) (oi := { dst := some 22, op := Go.Op.binOp Go.BinOp.add 3 (Go.Operand.tmp 20) (Go.Operand.tmp 21) 3, type := 3, pos := "search.go:50", after := #[{ on := 7, ground := Go.Ground.data }, { on := 8, ground := Go.Ground.data }], guard := none }) (v := ?vu9) rfl (by kernel_rfl) (by kernel_rfl) (by kernel_rfl) (fun _ _ _ h => h) (Or.inl ⟨by rfl, ?yu9⟩) (by assumption) ?ru9
  case yu9 => (intro wq hSw; (try dsimp only at hSw); go_simp; try with_reducible rfl)
  simp only [Act.put, List.setIfInBounds_toArray, List.set_cons_zero, List.set_cons_succ]
  refine wpAnyH_take (i := 10) (oi := { dst := some 23, op := Go.Op.load 87 (Go.Operand.tmp 1), type := 87, pos := "search.go:50", after := #[], guard := none }) (v := ?vu10) rfl (by kernel_rfl) (by kernel_rfl) (by kernel_rfl) (fun _ _ _ h => h) (Or.inl ⟨by rfl, ?yu10⟩) (by assumption) ?ru10
  case yu10 => (intro wq hSw; (try dsimp only at hSw); go_simp; try with_reducible rfl)
  simp only [Act.put, List.setIfInBounds_toArray, List.set_cons_zero, List.set_cons_succ]
  refine wpAnyH_take (i := 11) (oi := { dst := some 24, op := Go.Op.nilCheck (Go.Operand.tmp 23), type := 0, pos := "search.go:50", after := #[{ on := 10, ground := Go.Ground.data }], guard := none }) (v := ?vu11) rfl (by kernel_rfl) (by kernel_rfl) (by kernel_rfl) (fun _ _ _ h => h) (Or.inl ⟨by rfl, ?yu11⟩) (by assumption) ?ru11
  case yu11 => (intro wq hSw; (try dsimp only at hSw); go_simp; try with_reducible rfl)
  simp only [Act.put, List.setIfInBounds_toArray, List.set_cons_zero, List.set_cons_succ]
  refine wpAnyH_take (i := 12) (oi := { dst := some 25, op := Go.Op.fieldAddr 89 (Go.Operand.tmp 24) 3, type := 0, pos := "search.go:50", after := #[{ on := 11, ground := Go.Ground.data }], guard := none }) (v := ?vu12) rfl (by kernel_rfl) (by kernel_rfl) (by kernel_rfl) (fun _ _ _ h => h) (Or.inl ⟨by rfl, ?yu12⟩) (by assumption) ?ru12
  case yu12 => (intro wq hSw; (try dsimp only at hSw); go_simp; try with_reducible rfl)
  simp only [Act.put, List.setIfInBounds_toArray, List.set_cons_zero, List.set_cons_succ]
  refine wpAnyH_take (i := 13) (oi := { dst := some 26, op := Go.Op.load 3 (Go.Operand.tmp 25), type := 3, pos := "search.go:50", after := #[{ on := 12, ground := Go.Ground.data }], guard := none }) (v := ?vu13) rfl (by kernel_rfl) (by kernel_rfl) (by kernel_rfl) (fun _ _ _ h => h) (Or.inl ⟨by rfl, ?yu13⟩) (by assumption) ?ru13
  case yu13 => (intro wq hSw; (try dsimp only at hSw); go_simp; try with_reducible rfl)
  simp only [Act.put, List.setIfInBounds_toArray, List.set_cons_zero, List.set_cons_succ]
  refine wpAnyH_take (i := 14) (oi := { dst := some 27, op := Go.Op.load 3 (Go.Operand.tmp 3), type := 3, pos := "search.go:50", after := #[], guard := none }) (v := ?vu14) rfl (by kernel_rfl) (by kernel_rfl) (by kernel_rfl) (fun _ _ _ h => h) (Or.inl ⟨by rfl, ?yu14⟩) (by assumption) ?ru14
  case yu14 => (intro wq hSw; (try dsimp only at hSw); go_simp; try with_reducible rfl)
  simp only [Act.put, List.setIfInBounds_toArray, List.set_cons_zero, List.set_cons_succ]
  refine wpAnyH_take (i := 15) (oi := { dst := some 28, op := Go.Op.binOp Go.BinOp.add 3 (Go.Operand.tmp 26) (Go.Operand.tmp 27) 3, type := 3, pos := "search.go:50", after := #[{ on := 13, ground := Go.Ground.data }, { on := 14, ground := Go.Ground.data }], guard := none }) (v := ?vu15) rfl (by kernel_rfl) (by kernel_rfl) (by kernel_rfl) (fun _ _ _ h => h) (Or.inl ⟨by rfl, ?yu15⟩) (by assumption) ?ru15
  case yu15 => (intro wq hSw; (try dsimp only at hSw); go_simp; try with_reducible rfl)
  simp only [Act.put, List.setIfInBounds_toArray, List.set_cons_zero, List.set_cons_succ]
  refine wpAnyH_ready (rs := [16]) (by kernel_rfl) (by simp) (AllReadyH.cons (o := { dst := some 29, op := Go.Op.call { callee := Go.Callee.value (Go.Operand.func 72), args := #[Go.Operand.tmp 16, Go.Operand.tmp 22, Go.Operand.tmp 28], argTypes := #[30, 3, 3] }, type := 85, pos := "search.go:50", after := #[{ on := 3, ground := Go.Ground.data }, { on := 9, ground := Go.Ground.data }, { on := 15, ground := Go.Ground.data }], guard := none }) rfl (fun K hK => ?_) AllReadyH.nil)
  go_simp
  go_at_call 72; refine (times_any c sl (fr + ls) (V + ms) _).mono ?_
  rintro e X ⟨f, g, h, rfl, Bf, Bg, Bh, q1, f1', g1', h1'⟩
  have Q1 := Lib.hid (KD.out.trans q1)
  refine Shut.out hK _ _ (tt_cells (P3.out.kept Q1.out) (L3.out.kept Q1.out) (M3.out.kept Q1.out) (S3.out.kept Q1.out)) (fun hSb => ?_)
  clear hK K
  try simp only [Act.put, List.setIfInBounds_toArray, List.set_cons_zero, List.set_cons_succ]
  refine wpAnyH_done (by kernel_rfl) ?_ _
  have PX := Lib.hid (P3.out.kept Q1.out); have LX := Lib.hid (L3.out.kept Q1.out); have MX := Lib.hid (M3.out.kept Q1.out); have SX := Lib.hid (S3.out.kept Q1.out); have KX := Lib.hid (K3.out.trans Q1.out)
  have e1 := L3.out.lt; have e2 := M3.out.lt; have e3 := S3.out.lt; have e4 := P3.out.lt
  have e5 : x3.heap.size ≤ f ∧ x3.heap.size ≤ g ∧ x3.heap.size ≤ h := ⟨f1', g1', h1'⟩
  have l5 := Bf.lt; have l6 := Bg.lt; have l7 := Bh.lt
  have e6 := Q1.out.size
  clear hSb hS0 q1 f1' g1' h1' P3 L3 M3 S3 K3 KD
  gi_wp2
  have hk0 := HK.out.size
  have hkx := KX.out.size
  refine range_itr (n := 9) (gf := 94) (lb := #[.pointer (some ⟨f, 0, none⟩), .pointer (some ⟨g, 0, none⟩), .pointer (some ⟨h, 0, none⟩)]) rfl (enters_of Tryz.func94 (by kernel_rfl) rfl)
    (times_itr c sl (fr + ls) (V + ms) f g h w0 HC.out HMC.out (by omega) (by omega) (by omega) (by omega)) (fun s arr s' hs => by obtain ⟨_, _, _, _, _, _, rfl, _⟩ := hs; rfl)
    (fun k => k = b) (fun k hk => by have : k = b := hk; omega) ⟨HK.out.trans KX.out, Bf, Bg, Bh⟩
    (fun A B v q => q.save v (fun k hk => by rcases hk with hk | hk <;> omega) (fun q => by rcases q with q | q <;> omega) (fun q => by rcases q with q | q <;> omega) (fun q => by rcases q with q | q <;> omega))
    (fun s Y => fr + ls ≤ s ∧ (∃ up fo, Sx b z sl c.st fr up fo Y ∧ SInv z c fr U up fo ∧ up ≤ V ∧ (∀ n, fr + ls ≤ n → n < s → n ≤ V + ms → slot c n = true → Not6 z c fr up (n - ms) ∧ Not6 z c fr up (n - ls))) ∧ Kept w0 Y ∧ Bp w.heap.size b Y ∧ Bi d1 ls Y ∧ Bi (d1 + 1) ms Y)
    (fun q s Y => q = .ret ∧ (∃ up fo, Sx b z sl c.st fr up fo Y ∧ SInv z c fr U up fo ∧ up ≤ V ∧ (∀ n, fr + ls ≤ n → n ≤ V + ms → slot c n = true → (Not6 z c fr up (n - ms) ∧ Not6 z c fr up (n - ls)) ∨ up < n - ms)))
    ?hI ?hIx ⟨Int.le_refl _, ⟨V, fo, SX.out, HI.out, Int.le_refl _, fun n n1 n2 => by omega⟩, HK.out.trans KX.out, PX.out, LX.out, MX.out⟩ ?round ?done ?stop
  case hI =>
    rintro s A B ⟨h1, ⟨up, fo2, h2, h3⟩, h4, h5, h6, h7⟩ kb
    exact ⟨h1, ⟨up, fo2, (kb.block _ (by omega)).trans h2, h3⟩, kept_sub h4 kb (by omega), (kb.block _ (by omega)).trans h5, (kb.block _ (by omega)).trans h6, (kb.block _ (by omega)).trans h7⟩
  case hIx =>
    rintro q s A B ⟨h1, up, fo2, h2, h3⟩ kb
    exact ⟨h1, up, fo2, (kb.block _ (by omega)).trans h2, h3⟩
  case round =>
    rintro l2 s arr s' Y ⟨n, n1, n2, n3, n4, n5, rfl, rfl⟩ ⟨hs1, ⟨up, fo2, hs2, hs3, hs4, hs5⟩, hk, hp, hl, hm⟩ hsz K hK
    have HN4 := Lib.hid n4; have HN5 := Lib.hid n5; have H3 := Lib.hid hs3; have H5 := Lib.hid hs5
    have HKY := Lib.hid hk; have HP := Lib.hid hp; have HL := Lib.hid hl; have HM := Lib.hid hm; have H2 := Lib.hid hs2
    clear n4 n5 hs3 hs5 hk hp hl hm hs2
    simp only [List.zip_toArray, List.zip_cons_cons, List.zip_nil_right, List.foldl_toArray, List.foldl_cons, List.foldl_nil, List.setIfInBounds_toArray, List.set_cons_zero, List.set_cons_succ]
    gi_wp2
    refine hK _ _ (Kept.refl Y) (fun W2 v2 => ?_)
    have S2 := Lib.hid (H2.out.save v2 (by omega)); have P2 := Lib.hid (HP.out.save v2 (by omega)); have L2 := Lib.hid (HL.out.save v2 (by omega)); have M2 := Lib.hid (HM.out.save v2 (by omega))
    have K2 := Lib.hid (kept_sub HKY.out (v2.below (n := X.heap.size) (by omega) (fun k h => by omega)) (by omega))
    clear v2 H2 HP HL HM HKY hK
    have ap := P2.out.c; have al := L2.out.c; have am := M2.out.c
    have a26 : W2.cell? ⟨b, 26, none⟩ = some (.int .i64 up) := cell_of S2.out rfl
    by_cases hup : up < n - ms
    · have hd : decide (n - ms > up) = true := decide_eq_true (by omega)
      have hd' : decide (up < n - ms) = true := decide_eq_true hup
      have HE := Lib.hid (show ∀ m, fr + ls ≤ m → m ≤ V + ms → slot c m = true → (Not6 z c fr up (m - ms) ∧ Not6 z c fr up (m - ls)) ∨ up < m - ms from fun m m1 m2 m3 => by
        by_cases q : m < s
        · exact Or.inl (H5.out m m1 q m2 m3)
        · by_cases q2 : m < n
          · rw [HN5.out m (by omega) m1 q2] at m3; cases m3
          · exact Or.inr (by omega))
      have hmix : Tryz.prog.follows .mixedOrders = true := by kernel_rfl
      gi_upto_region 4 with (fail)
      refine quiet_round hmix (by kernel_rfl) (by kernel_rfl) ?_
      repeat (gi_big_quiet_step (fail))
      refine wpQuietIn_nil ?_
      rintro _ ⟨nq, rfl⟩
      gi_wp2
      exact ⟨Save.of_kept _ ((Kept.refl W2).drewN nq), rfl, up, fo2, S2.out, H3.out, hs4, HE.out⟩
    · have hd : decide (n - ms > up) = false := decide_eq_false (by omega)
      have hd' : decide (up < n - ms) = false := decide_eq_false hup
      have hmix : Tryz.prog.follows .mixedOrders = true := by kernel_rfl
      gi_upto_region 4 with (fail)
      refine quiet_round hmix (by kernel_rfl) (by kernel_rfl) ?_
      repeat (gi_big_quiet_step (fail))
      refine wpQuietIn_nil ?_
      rintro _ ⟨nq, rfl⟩
      have kq := (Kept.refl W2).drewN nq
      generalize W2.drewN nq = W3 at *
      have S3 := Lib.hid (S2.out.kept kq); have P3 := Lib.hid (P2.out.kept kq); have L3 := Lib.hid (L2.out.kept kq); have M3 := Lib.hid (M2.out.kept kq); have K3 := Lib.hid (K2.out.trans kq); have V3 := Lib.hid (Save.of_kept (fun k => k = b) kq)
      obtain ⟨i1, i2, i3⟩ := try_inv (t := n - ms) H3.out
      obtain ⟨j1, j2, j3⟩ := try_inv (t := n - ls) i1
      have HA := Lib.hid (fun x hx hs => try_any z c sl b fr up fo2 (n - ms) x hx hs (by omega) (by omega) (by omega))
      have HB := Lib.hid (fun x hx hs => try_any z c sl b fr (trU z c fr up (n - ms)) (trF z c fr up fo2 (n - ms)) (n - ls) x hx hs (by omega) (by omega) (by omega))
      have HJ := Lib.hid j1
      have HUP := Lib.hid (show trU z c fr (trU z c fr up (n - ms)) (n - ls) ≤ V by omega)
      have HNN := Lib.hid (show ∀ m, fr + ls ≤ m → m < n + 1 → m ≤ V + ms → slot c m = true → Not6 z c fr (trU z c fr (trU z c fr up (n - ms)) (n - ls)) (m - ms) ∧ Not6 z c fr (trU z c fr (trU z c fr up (n - ms)) (n - ls)) (m - ls) from fun m m1 m2 m3 m4 => by
        by_cases hmn : m = n
        · subst hmn; exact ⟨i3.mono j2, j3⟩
        · by_cases q : m < s
          · have := H5.out m m1 q m3 m4
            exact ⟨this.1.mono (by omega), this.2.mono (by omega)⟩
          · rw [HN5.out m (by omega) m1 (by omega)] at m4; cases m4)
      clear i1 i2 i3 j1 j2 j3 H3 H5 HN5 HN4 kq S2 P2 L2 M2 K2 ap al am a26 hd hd' hup
      generalize trF z c fr (trU z c fr up (n - ms)) (trF z c fr up fo2 (n - ms)) (n - ls) = fo4 at *
      generalize trU z c fr (trU z c fr up (n - ms)) (n - ls) = up4 at *
      generalize trU z c fr up (n - ms) = up3 at *
      generalize trF z c fr up fo2 (n - ms) = fo3 at *
      have ap := P3.out.c; have am := M3.out.c
      gi_upto_region 6 with (refine ⟨trivial, ?_⟩; gi_at_call 96; refine (CallsIn.inRound l2 (callsIn_wide.2 (HA.out _ (HC.out.kept K3.out) S3.out))).mono ?_; rintro e W4 ⟨⟨v4, rfl⟩, s4, k4⟩)
      have S4 := Lib.hid s4
      have P4 := Lib.hid (P3.out.save k4 (by omega)); have L4 := Lib.hid (L3.out.save k4 (by omega)); have M4 := Lib.hid (M3.out.save k4 (by omega)); have V4 := Lib.hid (V3.out.trans k4)
      have K4 := Lib.hid (show Kept w0 W4 from kept_sub K3.out (k4.below (n := w0.heap.size) K3.out.size (fun k h => by omega)) (Nat.le_refl _))
      clear s4 k4 S3 P3 L3 M3 V3 K3 HA ap am
      have ap := P4.out.c; have al := L4.out.c
      gi_wp2_with (refine ⟨trivial, ?_⟩; gi_at_call 96; refine (CallsIn.inRound l2 (callsIn_wide.2 (HB.out _ (HC.out.kept K4.out) S4.out))).mono ?_; rintro e W5 ⟨⟨v5, rfl⟩, s5, k5⟩)
      refine ⟨V4.out.trans k5, by omega, ⟨up4, fo4, s5, HJ.out, HUP.out, HNN.out⟩, kept_sub K4.out (k5.below (n := w0.heap.size) K4.out.size (fun k h => by omega)) (Nat.le_refl _), P4.out.save k5 (by omega), L4.out.save k5 (by omega), M4.out.save k5 (by omega)⟩
  case done =>
    rintro s Y hend ⟨hs1, ⟨up, fo2, hs2, hs3, hs4, hs5⟩, hk, hp, hl, hm⟩ hv hK
    have HE := Lib.hid (show ∀ n, fr + ls ≤ n → n ≤ V + ms → slot c n = true → (Not6 z c fr up (n - ms) ∧ Not6 z c fr up (n - ls)) ∨ up < n - ms from fun m m1 m2 m3 => by
      by_cases q : m < s
      · exact Or.inl (hs5 m m1 q m2 m3)
      · rw [hend m (by omega) m1 m2] at m3; cases m3)
    have H2 := Lib.hid hs2; have H3 := Lib.hid hs3; have HV := Lib.hid hv
    clear hend hs2 hs3 hs5 hk hp hl hm hv
    gi_wp2
    refine ⟨by simp, .inl ⟨_, _, rfl, run_takeDeferred hK, ?_⟩⟩
    have hz := HV.out.size
    exact ⟨_, results_none rfl _ _ _, ⟨_, rfl⟩, ⟨up, fo2, H2.out.save (Save.put (M := fun k => k = X.heap.size) (.deferred none) rfl) (by omega), H3.out, hs4, by rw [HLS.out, HMS.out]; exact HE.out⟩, (((Save.of_kept _ KX.out).trans HV.out).own (Save.put (M := fun k => k = X.heap.size) _ rfl) (fun k h => by omega))⟩
  case stop =>
    rintro q s Y ⟨rfl, up, fo2, hs2, hs3, hs4, hs5⟩ hv hK
    have HE := Lib.hid hs5
    have H2 := Lib.hid hs2; have H3 := Lib.hid hs3; have HV := Lib.hid hv
    clear hs2 hs3 hs5 hv
    gi_wp2
    refine ⟨by simp, .inl ⟨_, _, rfl, run_takeDeferred hK, ?_⟩⟩
    have hz := HV.out.size
    exact ⟨_, results_none rfl _ _ _, ⟨_, rfl⟩, ⟨up, fo2, H2.out.save (Save.put (M := fun k => k = X.heap.size) (.deferred none) rfl) (by omega), H3.out, hs4, by rw [HLS.out, HMS.out]; exact HE.out⟩, (((Save.of_kept _ KX.out).trans HV.out).own (Save.put (M := fun k => k = X.heap.size) _ rfl) (fun k h => by omega))⟩
end Go.Proofs.YtilgamjahediiaaGreatDoor
/- Contracts of package fire: when a schedule fires next. -/
set_option linter.unusedVariables false
namespace Go.Proofs.YtilgamjahediiaaGreatDoor
open Go.ChangeShapes Go.WideShapes Go.ChangeAt Go.RowKit
open Civ Zn Lc Crn
/-- what is found from one second up to another one -/
def FirstP (z : Zo) (c : CR) (fr U fo : Int) : Prop := (U < fr ∧ fo = 0) ∨ (∃ up, SInv z c fr U up fo ∧ ∀ t, fr ≤ t → t ≤ up → frP z c t = false)
set_option maxRecDepth 100000 in
set_option maxHeartbeats 8000000 in
theorem first_any (z : Zo) (c : CR) (sl : Nat → Value) (fr U : Int) (w : World) (hc : Cr w sl c.L) (hm : mayC c = true) (hz : mayZ z = true) (f1 : 86400 ≤ fr) (f2 : U ≤ 253402214400) :
    Calls Tryz.prog 39 #[zoV z, crV sl c.st, .int .i64 fr, .int .i64 U] w fun e w' => (∃ fo, e = .returned (.tuple #[.int .i64 fo, .bool (fo != 0)]) ∧ FirstP z c fr U fo) ∧ Kept w w' := by
  have k0 := (Kept.refl w).alloc (.cells (zo15 z.std z.off z.has z.dst z.ahead z.fr.k z.fr.m z.fr.w z.fr.d z.fr.a z.to.k z.to.m z.to.w z.to.d z.to.a) 25)
  have b0 := bz_new w z
  go_enter Tryz.func39, Tryz.ntmps39
  go_upto_region 1 with (fail)
  generalize hx : w.alloc (.cells (zo15 z.std z.off z.has z.dst z.ahead z.fr.k z.fr.m z.fr.w z.fr.d z.fr.a z.to.k z.to.m z.to.w z.to.d z.to.a) 25) = x at *
  have s1 : x.heap.size = w.heap.size + 1 := by rw [← hx]; simp
  clear hx
  have c1 : Cb (w.heap.size + 1) sl c.st (x.alloc (.cells (cr10 sl c.st) 30)) := by rw [← s1]; exact Cb.new sl c.st x
  have k1 := (Kept.refl x).alloc (.cells (cr10 sl c.st) 30)
  generalize x.alloc (.cells (cr10 sl c.st) 30) = x1 at *
  have Z1 := Lib.hid (b0.kept k1); have B1 := Lib.hid c1; have K1 := Lib.hid (k0.trans k1); have HC := Lib.hid hc
  have HMC := Lib.hid hm; have HZ := Lib.hid hz
  clear b0 k0 k1 c1 s1 hc hm hz
  by_cases hlt : U < fr
  · go_wp2
    go_ret2
    exact ⟨⟨0, rfl, Or.inl ⟨hlt, rfl⟩⟩, K1.out⟩
  go_upto_region 4 with (first | refine wpList_load_row rfl 25 _ rfl w.heap.size rfl 25 _ (0, 0) _ Z1.out Tryz.underlying25 rfl (by kernel_rfl) ?_ | refine wpList_load_row rfl 30 _ rfl (w.heap.size + 1) rfl 30 _ (0, 0) _ B1.out Tryz.underlying30 rfl (by kernel_rfl) ?_)
  change Code.wp Tryz.prog _ _ _ (x1.alloc (.cells (sx28 z sl c.st fr U 0) 89))
  have hS : Sx x1.heap.size z sl c.st fr U 0 (x1.alloc (.cells (sx28 z sl c.st fr U 0) 89)) := new_block x1 _
  have kk := (Kept.refl x1).alloc (.cells (sx28 z sl c.st fr U 0) 89)
  have hs1 := K1.out.size
  generalize x1.alloc (.cells (sx28 z sl c.st fr U 0) 89) = X at *
  have SX := Lib.hid hS; have KX := Lib.hid (K1.out.trans kk)
  generalize x1.heap.size = D at *
  clear hS kk Z1 B1 K1
  go_wp2_with fail
  refine (tryTurns_any z c sl D fr U w _ HC.out KX.out hs1 SX.out f1 (by omega) f2).mono ?_
  rintro e x2 ⟨⟨v2, rfl⟩, ⟨up, fo, s2, i2, n2⟩, k2⟩
  have S2 := Lib.hid s2; have I2 := Lib.hid i2; have N2 := Lib.hid n2
  have K2 := Lib.hid (show Kept w x2 from kept_sub KX.out (k2.below (n := w.heap.size) KX.out.size (fun k h => by omega)) (Nat.le_refl _))
  have up1 := sinv_up i2
  have up2 : 86400 - 1 ≤ up := by rcases i2 with q | q <;> omega
  clear s2 i2 n2 k2 SX KX
  go_wp2_with fail
  refine (tryTimes_any z c sl D fr U up fo w _ HC.out K2.out hs1 HMC.out HZ.out S2.out I2.out f1 f2 (by omega) (by omega)).mono ?_
  rintro e x3 ⟨⟨v3, rfl⟩, ⟨up3, fo3, s3, i3, u3, n3⟩, k3⟩
  have S3 := Lib.hid s3
  have K3 := Lib.hid (show Kept w x3 from kept_sub K2.out (k3.below (n := w.heap.size) K2.out.size (fun k h => by omega)) (Nat.le_refl _))
  have HP := Lib.hid (show FirstP z c fr U fo3 from Or.inr ⟨up3, i3, all_tried w HZ.out f1 f2 (V := up) u3 (by omega) (fun y y1 y2 => by
    have := N2.out y y1 y2
    exact ⟨this.1.mono u3, this.2.mono u3⟩) n3⟩)
  clear s3 i3 u3 n3 k3 S2 I2 N2 K2
  have a27 : x3.cell? ⟨D, 27, none⟩ = some (.int .i64 fo3) := cell_of S3.out rfl
  go_upto_region 6 with (fail)
  go_quiet (fail)
  go_wp2
  go_ret2
  exact ⟨⟨fo3, rfl, HP.out⟩, K3.out.drewN _⟩
set_option maxRecDepth 100000 in
set_option maxHeartbeats 8000000 in
theorem next_any (z : Zo) (c : CR) (sl : Nat → Value) (a b : Int) (w : World) (a1 : -9223372036854775808 ≤ a) (a2 : a ≤ 9223372036854775807) (b1 : -9223372036854775808 ≤ b) (b2 : b ≤ 9223372036854775807) (hc : Cr w sl c.L) :
    Calls Tryz.prog 16 #[zoV z, crV sl c.st, .int .i64 a, .int .i64 b] w fun e w' => e = .returned (.tuple #[.int .i64 ((nxP z c a b).getD 0), .bool (nxP z c a b).isSome]) ∧ Kept w w' := by
  have HO := Lib.hid (@next_out z c a b)
  have HN := Lib.hid (fun fr U fo (h1 : 0 ≤ a) (h2 : b - a ≤ 3456000) (h3 : fr = max (a + 1) 86400) (h4 : U = min b 253402214400) (up : Int) (h5 : SInv z c fr U up fo) (h6 : ∀ t, fr ≤ t → t ≤ up → frP z c t = false) => next_found h1 h2 h3 h4 h5 h6)
  generalize nxP z c a b = R at *
  have k0 := (Kept.refl w).alloc (.cells (zo15 z.std z.off z.has z.dst z.ahead z.fr.k z.fr.m z.fr.w z.fr.d z.fr.a z.to.k z.to.m z.to.w z.to.d z.to.a) 25)
  have b0 := bz_new w z
  go_enter Tryz.func16, Tryz.ntmps16
  go_upto_region 1 with (fail)
  generalize hx : w.alloc (.cells (zo15 z.std z.off z.has z.dst z.ahead z.fr.k z.fr.m z.fr.w z.fr.d z.fr.a z.to.k z.to.m z.to.w z.to.d z.to.a) 25) = x at *
  have s1 : x.heap.size = w.heap.size + 1 := by rw [← hx]; simp
  clear hx
  have c1 : Cb (w.heap.size + 1) sl c.st (x.alloc (.cells (cr10 sl c.st) 30)) := by rw [← s1]; exact Cb.new sl c.st x
  have k1 := (Kept.refl x).alloc (.cells (cr10 sl c.st) 30)
  generalize x.alloc (.cells (cr10 sl c.st) 30) = x1 at *
  have Z1 := Lib.hid (b0.kept k1); have B1 := Lib.hid c1; have K1 := Lib.hid (k0.trans k1); have C1 := Lib.hid (hc.kept (k0.trans k1))
  clear b0 k0 k1 c1 s1 hc
  go_wp2_with (refine wpList_load_row rfl 25 _ rfl w.heap.size rfl 25 _ (0, 0) _ Z1.out Tryz.underlying25 rfl (by kernel_rfl) ?_)
  refine (zMay_any z _).mono ?_
  rintro e x2 ⟨rfl, k2⟩
  have Z2 := Lib.hid (Z1.out.kept k2); have B2 := Lib.hid (B1.out.kept k2); have C2 := Lib.hid (C1.out.kept k2); have K2 := Lib.hid (K1.out.trans k2)
  clear k2 Z1 B1 C1 K1
  cases hz : mayZ z with
  | false =>
    have HR := Lib.hid (HO.out (Or.inl hz))
    clear HO HN hz
    go_wp2
    go_ret2
    exact ⟨by rw [HR.out]; rfl, K2.out⟩
  | true =>
    have HZ := Lib.hid hz
    clear hz
    obtain ⟨e0, e1, e2, e3, e4, e5, e6, e7, e8, e9⟩ := cells10 B2.out
    go_wp2_with fail
    refine (cmay_any c sl _ C2.out).mono ?_
    rintro e x3 ⟨rfl, k3⟩
    have Z3 := Lib.hid (Z2.out.kept k3); have B3 := Lib.hid (B2.out.kept k3); have C3 := Lib.hid (C2.out.kept k3); have K3 := Lib.hid (K2.out.trans k3)
    clear k3 Z2 B2 C2 K2
    clear e0 e1 e2 e3 e4 e5 e6 e7 e8 e9
    cases hm : mayC c with
    | false =>
      have HR := Lib.hid (HO.out (Or.inr (Or.inl hm)))
      clear HO HN hm
      go_wp2
      go_ret2
      exact ⟨by rw [HR.out]; rfl, K3.out⟩
    | true =>
      have HM := Lib.hid hm
      clear hm
      by_cases r1 : a < 0
      · have HR := Lib.hid (HO.out (Or.inr (Or.inr (Or.inl r1))))
        clear HO HN
        go_wp2
        go_ret2
        exact ⟨by rw [HR.out]; rfl, K3.out⟩
      by_cases r2 : b ≤ a
      · have HR := Lib.hid (HO.out (Or.inr (Or.inr (Or.inr (Or.inl r2)))))
        clear HO HN
        go_wp2
        go_ret2
        exact ⟨by rw [HR.out]; rfl, K3.out⟩
      by_cases r3 : 3456000 < b - a
      · have HR := Lib.hid (HO.out (Or.inr (Or.inr (Or.inr (Or.inr (Or.inl r3))))))
        clear HO HN
        go_wp2
        go_ret2
        exact ⟨by rw [HR.out]; rfl, K3.out⟩
      have HF := Lib.hid (fun x hx => first_any z c sl (max (a + 1) 86400) (min b 253402214400) x hx HM.out HZ.out (by omega) (by omega))
      go_wp2_with (first | refine wpList_load_row rfl 25 _ rfl w.heap.size rfl 25 _ (0, 0) _ Z3.out Tryz.underlying25 rfl (by kernel_rfl) ?_ | refine wpList_load_row rfl 30 _ rfl (w.heap.size + 1) rfl 30 _ (0, 0) _ B3.out Tryz.underlying30 rfl (by kernel_rfl) ?_)
      refine (HF.out _ C3.out).mono ?_
      rintro e x4 ⟨⟨fo, rfl, hP⟩, k4⟩
      have HR := Lib.hid (show R = if fo = 0 then none else some fo by
        rcases hP with ⟨q1, q2⟩ | ⟨up, q1, q2⟩
        · rw [HO.out (Or.inr (Or.inr (Or.inr (Or.inr (Or.inr q1))))), q2]; rfl
        · exact HN.out _ _ fo (by omega) (by omega) rfl rfl up q1 q2)
      have K4 := Lib.hid (K3.out.trans k4)
      clear HO HN HF hP k4
      go_wp2
      go_ret2
      exact ⟨by
        rw [HR.out]
        by_cases q : fo = 0
        · subst q; rfl
        · rw [if_neg q, bne_iff_ne.2 q]; rfl, K4.out⟩
end Go.Proofs.YtilgamjahediiaaGreatDoor
