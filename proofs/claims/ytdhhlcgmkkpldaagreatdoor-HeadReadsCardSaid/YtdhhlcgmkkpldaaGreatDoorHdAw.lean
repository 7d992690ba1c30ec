/- The chapter's examples; are headers few. -/
import Derived.Test.YtdhhlcgmkkpldaaGreatDoorHdRd
import Derived.Lib.SlBytesConst
set_option linter.unusedSimpArgs false
set_option linter.unusedVariables false
namespace Go.Proofs.YtdhhlcgmkkpldaaGreatDoor.Hd
open Go.ChangeShapes Go.WideShapes Go.ChangeAt Go.RowKit Go.Shelf
theorem ex_cod : cod [195, 169] = [[61, 63, 117, 116, 102, 45, 56, 63, 66, 63, 119, 54, 107, 61, 63, 61]] := by
  rw [cod_more (by decide), show prt [195, 169] = 2 from rfl, show ([195, 169] : B).drop 2 = [] from rfl, cod_nil, show ([195, 169] : B).take 2 = [195, 169] from rfl]
  decide +kernel
theorem ex_line : line ([83, 117, 98, 106, 101, 99, 116], [195, 169]) = some [83, 117, 98, 106, 101, 99, 116, 58, 32, 61, 63, 117, 116, 102, 45, 56, 63, 66, 63, 119, 54, 107, 61, 63, 61, 13, 10] := by
  rw [line_lnH (by decide)]
  unfold lnH bdy wds
  rw [if_neg (by decide), ex_cod]
  rfl
theorem ex_to : line ([84, 111], [97, 32, 98]) = some [84, 111, 58, 32, 97, 32, 98, 13, 10] := by
  rw [line_lnH (by decide)]
  unfold lnH bdy wds
  rw [if_pos (by decide)]
  rfl
theorem ex_read : red [84, 111, 58, 32, 97, 32, 98, 13, 10] = some ([84, 111], [97, 32, 98]) := red_iff.2 ex_to
set_option maxRecDepth 100000 in
set_option maxHeartbeats 4000000 in
theorem awake14_any (w : World) (hE : Env w) : Calls Tryz.prog 4 #[] w fun e w' => e = .returned (.bool true) ∧ Kept w w' := by
  have kc := fun (w : World) (C : Array Value) (n c : Nat) => Lib.run_convert_bytes_const (P := Tryz.prog) w 22 5 C n c Tryz.underlying22 Tryz.underlying5
  have HE := Lib.hid hE
  clear hE
  go_enter Tryz.func4, Tryz.ntmps4
  go_wp2_with fail
  refine (line_any ([83, 117, 98, 106, 101, 99, 116], [195, 169]) w HE.out (by decide) (by decide)).mono ?_
  rintro e x1 ⟨xv, rfl, hO, k1⟩
  rw [ex_line, Option.getD_some] at hO
  rw [lE_ok (show okH ([83, 117, 98, 106, 101, 99, 116], [195, 169]) = true by decide)]
  obtain ⟨a1, c1, hv1⟩ := hO.slice
  rw [show ([83, 117, 98, 106, 101, 99, 116, 58, 32, 61, 63, 117, 116, 102, 45, 56, 63, 66, 63, 119, 54, 107, 61, 63, 61, 13, 10] : B).length = 27 from rfl] at hv1
  subst hv1
  have R1 := Lib.hid hO.rd
  have K1 := Lib.hid k1
  clear hO k1
  have ka := (Kept.refl x1).alloc (.cells #[.int .u8 84, .int .u8 111, .int .u8 58, .int .u8 32, .int .u8 97, .int .u8 32, .int .u8 98, .int .u8 13, .int .u8 10] 5 (9, 10))
  have KA := Lib.hid (K1.out.trans ka)
  have RA := Lib.hid (brd_new x1 [84, 111, 58, 32, 97, 32, 98, 13, 10] 5 #[.int .u8 84, .int .u8 111, .int .u8 58, .int .u8 32, .int .u8 97, .int .u8 32, .int .u8 98, .int .u8 13, .int .u8 10] rfl 9 (Nat.le_refl 9) (9, 10))
  have R1A := Lib.hid (R1.out.kept ka)
  clear K1 R1 ka
  go_wp2_with fail
  refine (read_any _ [84, 111, 58, 32, 97, 32, 98, 13, 10] _ RA.out (HE.out.kept KA.out) (by decide)).mono ?_
  rintro e x2 ⟨rfl, k2⟩
  rw [(rE_some ex_read).1, (rE_some ex_read).2]
  have K2 := Lib.hid (KA.out.trans k2)
  have R2 := Lib.hid (R1A.out.kept k2)
  have k3 := (Kept.refl x2).alloc (.cells #[sV [84, 111], sV [97, 32, 98]] 25)
  have c0 := (Kept.refl (x2.alloc (.cells #[sV [84, 111], sV [97, 32, 98]] 25))).new 0 (v := sV [84, 111]) rfl
  have c1' := (Kept.refl (x2.alloc (.cells #[sV [84, 111], sV [97, 32, 98]] 25))).new 1 (v := sV [97, 32, 98]) rfl
  have K3 := Lib.hid (K2.out.trans k3)
  have hcv := (R2.out.kept k3).conv
  clear k2 k3 KA RA R1A R2 kc
  go_upto_region 3 with (fail)
  generalize x2.alloc (.cells #[sV [84, 111], sV [97, 32, 98]] 25) = x3 at *
  have heq : ∀ W, (binOp .eql 25 (hV ([84, 111], [97, 32, 98])) (hV ([84, 111], [97, 32, 98]))).run Tryz.prog W = .ok (.bool true) W := fun W => (eql_hdr _ _ W).trans (by rfl)
  go_wp2_with fail
  refine (plain_any [97, 32, 98] _ (HE.out.kept K3.out) (by decide)).mono ?_
  rintro e x4 ⟨rfl, k4⟩
  rw [show pln [97, 32, 98] = true by decide]
  go_wp2_with fail
  refine (plain_any [97, 32, 32, 98] _ (HE.out.kept (K3.out.trans k4)) (by decide)).mono ?_
  rintro e x5 ⟨rfl, k5⟩
  rw [show pln [97, 32, 32, 98] = false by decide]
  go_wp2
  go_ret
  exact ⟨rfl, (K3.out.trans k4).trans k5⟩
/-- are they few -/
def fewB (l : List Hdr) (most : Int) : Bool := decide ((l.length : Int) ≤ most) && l.all fun h => decide (h.1.length ≤ 100) && decide (h.2.length ≤ 600)
theorem few_long {l : List Hdr} {most : Int} (h : most < l.length) : fewB l most = false := by
  unfold fewB
  rw [decide_eq_false (by omega)]; rfl
theorem few_bad {l : List Hdr} {most : Int} {i : Nat} {x : Hdr} (hx : l[i]? = some x) (h : 100 < x.1.length ∨ 600 < x.2.length) : fewB l most = false := by
  unfold fewB
  rw [Bool.and_eq_false_iff]
  refine Or.inr ?_
  rw [List.all_eq_false]
  refine ⟨x, List.mem_of_getElem? hx, ?_⟩
  simp only [Bool.and_eq_true, decide_eq_true_eq]
  omega
theorem few_yes {l : List Hdr} {most : Int} (h : ¬ most < l.length) (hx : ∀ j y, j < l.length → l[j]? = some y → y.1.length ≤ 100 ∧ y.2.length ≤ 600) : fewB l most = true := by
  unfold fewB
  rw [decide_eq_true (by omega), Bool.true_and, List.all_eq_true]
  intro x hm
  obtain ⟨i, hi, rfl⟩ := List.mem_iff_getElem.1 hm
  have := hx i _ hi (List.getElem?_eq_getElem hi)
  simp only [Bool.and_eq_true, decide_eq_true_eq]
  exact this
theorem few_bd {l : List Hdr} {most : Int} (h : fewB l most = true) : (l.length : Int) ≤ most ∧ ∀ x ∈ l, x.1.length ≤ 100 ∧ x.2.length ≤ 600 := by
  unfold fewB at h
  rw [Bool.and_eq_true, List.all_eq_true] at h
  exact ⟨by simpa using h.1, fun x hx => by have := h.2 x hx; simpa using this⟩
end Go.Proofs.YtdhhlcgmkkpldaaGreatDoor.Hd
