/- Package reply: the chapter's example, by its law. -/
import Derived.Test.YtdfmnjoklehifaaDoorRpY
import Derived.Lib.SlBytesConst
set_option linter.unusedSimpArgs false
set_option linter.unusedVariables false
namespace Go.Proofs.YtdfmnjoklehifaaDoor.Bk.Rp
open Go.ChangeShapes Go.WideShapes Go.ChangeAt Go.RowKit Go.Shelf
theorem rd_wrs {l : List Rep} (h : ∀ x ∈ l, okR x = true) : rdE (l.flatMap wr) = 0 ∧ rdR (l.flatMap wr) = l := by
  have e := run_wrs l h
  have e1 : rdE (l.flatMap wr) = 0 := by
    unfold rdE
    rw [e, if_pos ⟨_, rfl, rfl⟩]
  refine ⟨e1, ?_⟩
  unfold rdR
  rw [if_pos e1, e]
def exX : Rep := (250, [[97], [50, 46, 48, 46, 48, 32, 98]], (2, 0, 0))
def exB : B := [50, 53, 48, 45, 97, 13, 10, 50, 53, 48, 32, 50, 46, 48, 46, 48, 32, 98, 13, 10]
theorem ex_ok : okR exX = true := by kernel_rfl
theorem ex_wr : [exX].flatMap wr = exB := by kernel_rfl
theorem ex_rd : rdE exB = 0 ∧ rdR exB = [exX] := by
  rw [← ex_wr]
  exact rd_wrs (fun x hx => by simp only [List.mem_singleton] at hx; subst hx; exact ex_ok)
set_option maxRecDepth 100000 in
set_option maxHeartbeats 4000000 in
theorem awake_any (w : World) (hE : EX w) : Calls Tryd.prog 8 #[] w fun e w' => e = .returned (.bool true) ∧ Kept w w' := by
  have kc := fun (C : Array Value) (n c : Nat) => Lib.run_convert_bytes_const (P := Tryd.prog) w 26 5 C n c Tryd.underlying26 Tryd.underlying5
  have R1 := brd_new w exB 5 _ rfl 20 (Nat.le_refl 20) (20, 21)
  have K1 := Lib.hid ((Kept.refl w).alloc (.cells (exB.map fun b => Value.int .u8 b.toNat).toArray 5 (20, 21)))
  have HRd := Lib.hid (read_any exB _ _ R1 (hE.kept K1.out) (by decide))
  rw [ex_rd.1, ex_rd.2] at HRd
  have HE := Lib.hid hE
  clear hE R1
  obtain ⟨W, hW⟩ : ∃ W, W = w.alloc (.cells (exB.map fun b => Value.int .u8 b.toNat).toArray 5 (20, 21)) := ⟨_, rfl⟩
  go_enter Tryd.func8, Tryd.ntmps8
  go_wp2_with fail
  rw [← hW] at K1 HRd
  show Calls _ _ _ (w.alloc (.cells (exB.map fun b => Value.int .u8 b.toNat).toArray 5 (20, 21))) _
  rw [← hW]
  clear hW kc
  refine HRd.out.mono ?_
  rintro e w1 ⟨v, rfl, hv, k1⟩
  have K2 := Lib.hid (K1.out.trans k1)
  obtain ⟨g, o, c, hvv, hc, lv, d0, d1, d2, d3, d4, dL⟩ := hv.at (i := 0) (x := exX) rfl
  subst hvv
  rw [show ([exX] : List Rep).length = 1 from rfl] at hc ⊢
  simp only [Nat.zero_mul, Nat.add_zero] at d0 d1 d2 d3 d4
  rw [show exX.1 = 250 from rfl] at d0
  rw [show exX.2.2.1 = 2 from rfl] at d2
  rw [show exX.2.2.2.1 = 0 from rfl] at d3
  rw [show exX.2.2.2.2 = 0 from rfl] at d4
  obtain ⟨la, lc, rfl⟩ := dL.slice
  have HL := Lib.hid dL
  have D := Lib.hid (And.intro d0 (And.intro d1 (And.intro d2 (And.intro d3 d4))))
  clear hv k1 dL K1 HRd d0 d1 d2 d3 d4
  go_wp2_with fail
  refine (new_any w1).mono ?_
  rintro e w2 ⟨rfl, hr, k2, _⟩
  have K3 := Lib.hid (K2.out.trans k2)
  have HR := Lib.hid hr
  have d0 := k2.yes D.out.1
  have d1 := k2.yes D.out.2.1
  have d2 := k2.yes D.out.2.2.1
  have d3 := k2.yes D.out.2.2.2.1
  have d4 := k2.yes D.out.2.2.2.2
  have HM := Lib.hid (may_any exX _ w2 (HE.out.kept K3.out) (HL.out.kept k2) (by decide))
  rw [ex_ok] at HM
  have hq := fun y => eql_m3 (2, 0, 0) (2, 0, 0) y
  generalize w1.heap.size = rb at *
  clear hr k2 D
  go_wp2_with fail
  refine HM.out.mono ?_
  rintro e w3 ⟨rfl, k3⟩
  have K4 := Lib.hid (K3.out.trans k3)
  have HB := Lib.hid (bad_any rb false 0 (.slice none 0 0) [] w3 (HR.out.kept k3))
  clear k3 HM d0 d1 d2 d3 d4 hq
  go_wp2_with fail
  refine HB.out.mono ?_
  rintro e w4 ⟨rfl, rfl⟩
  go_wp2_with fail
  go_ret
  exact ⟨rfl, K4.out⟩
end Go.Proofs.YtdfmnjoklehifaaDoor.Bk.Rp
