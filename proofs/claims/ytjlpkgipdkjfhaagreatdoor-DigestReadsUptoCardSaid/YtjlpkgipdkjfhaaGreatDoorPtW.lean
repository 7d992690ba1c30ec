import Derived.Test.YtjlpkgipdkjfhaaGreatDoorPtB
import Derived.Test.YtjlpkgipdkjfhaaGreatDoorHd
import Derived.RegionTactic
import Derived.ChangeAlike
set_option linter.unusedSimpArgs false
set_option linter.unusedVariables false
namespace Go.Proofs.YtjlpkgipdkjfhaaGreatDoor.Bk.Pt
open Go.ChangeShapes Go.WideShapes Go.ChangeAt Go.RowKit Go.Shelf
open Hd (HRd OwnM app_mk aE aE_ok all_lnA all_any Hdr lnA lns lnH)
theorem own_stay {w w' : World} {B0 : Nat} {e : TypeId} {size : Nat} {v : Value} {n : Nat} {xs : List Value} (h : w.ownsRow B0 e size v n xs) (hs : ∀ k, v.ownBlock = some k → w'.heap[k]? = w.heap[k]?) : w'.ownsRow B0 e size v n xs := by
  refine ⟨h.1, ?_⟩
  rcases h.2 with h2 | ⟨g, cap, cur, h1, h2, h3, h4⟩
  · exact Or.inl h2
  · exact Or.inr ⟨g, cap, cur, h1, h2, (hs g (by rw [h1]; rfl)).trans h3, h4⟩
theorem kept_set {w z : World} (h : Kept w z) {b : Nat} (hb : w.heap.size ≤ b) (o : Nat) (v : Value) : Kept w (z.setCell ⟨b, o, none⟩ v) :=
  ⟨h.os, h.output, by have := h.size; simpa [World.setCell] using this, fun j hj => (Below.heap_setCell _ _ _ _ (by show j ≠ b; omega)).trans (h.block j hj), h.tape⟩
def WrI (w1 : World) (b : Nat) (mv : Value) (made x : B) (w : World) : Prop := Kept w1 w ∧ w1.heap.size ≤ b ∧ w.heap[b]? = some (.cells #[mv, sV x] 116) ∧ OwnB w1.heap.size mv made w
section
variable {w1 : World} {b : Nat} {mv : Value} {made x : B} {w w' : World}
theorem WrI.c0 (h : WrI w1 b mv made x w) : w.cell? ⟨b, 0, none⟩ = some mv := Hd.cell_at h.2.2.1 rfl
theorem WrI.c1 (h : WrI w1 b mv made x w) : w.cell? ⟨b, 1, none⟩ = some (sV x) := Hd.cell_at h.2.2.1 rfl
theorem WrI.frz (h : WrI w1 b mv made x w) (o : Nat) : w.frozen? ⟨b, o, none⟩ = false := by have := h.2.2.1; simp [World.frozen?, this]
theorem WrI.kept (h : WrI w1 b mv made x w) (k : Kept w w') : WrI w1 b mv made x w' := by
  obtain ⟨h1, h2, h3, h4⟩ := h
  exact ⟨h1.trans k, h2, (k.block b (Array.getElem?_eq_some_iff.1 h3).1).trans h3, h4.kept k⟩
theorem WrI.size (h : WrI w1 b mv made x w) : w1.heap.size ≤ w.heap.size := h.1.size
theorem WrI.ne (h : WrI w1 b mv made x w) : mv.ownBlock ≠ some b := by
  obtain ⟨h1, h2, h3, h4⟩ := h
  intro e
  obtain ⟨c, hc⟩ := own_kind h4 b e
  rw [h3] at hc
  cases hc
theorem WrI.grown (h : WrI w1 b mv made x w) {z : World} (hg : w.grownBy z mv.ownBlock) : z.heap[b]? = some (.cells #[mv, sV x] 116) :=
  (hg.block b (Array.getElem?_eq_some_iff.1 h.2.2.1).1 (fun e => h.ne e.symm)).trans h.2.2.1
theorem WrI.put (h : WrI w1 b mv made x w) {z : World} {mv' : Value} {made' : B} (hg : w.grownBy z mv.ownBlock) (hO : OwnB w1.heap.size mv' made' z) : WrI w1 b mv' made' x (z.setCell ⟨b, 0, none⟩ mv') := by
  have hz := h.grown hg
  have hn : mv'.ownBlock ≠ some b := by
    intro e
    obtain ⟨c, hc⟩ := own_kind hO b e
    rw [hz] at hc
    cases hc
  refine ⟨kept_set (kept_row h.1 hg (fun g e => (World.ownsRow.lt h.2.2.2 g e).1)) h.2.1 0 mv', h.2.1, ?_, own_stay hO (fun k hk => Below.heap_setCell _ _ _ _ (fun e => hn (by rw [hk]; exact congrArg some e)))⟩
  simp [World.setCell, Array.getElem?_modify, hz]
end
set_option maxRecDepth 100000 in
set_option maxHeartbeats 1000000 in
theorem write_any (w1 : World) (b : Nat) (mv : Value) (made x s : B) (w : World) (h : WrI w1 b mv made x w) (hl : made.length + s.length ≤ 100000000000000) :
    Calls Tryz.prog 142 #[.pointer (some ⟨b, 0, none⟩), sV s] w fun e w' => e = .returned (.tuple #[]) ∧ ∃ mv', WrI w1 b mv' (made ++ s) x w' := by
  have c0 := h.c0
  have hsz := h.size
  have HW := Lib.hid h
  obtain ⟨ma, mc, rfl⟩ := own_slice h.2.2.2
  clear h
  go_enter Tryz.func142, Tryz.ntmps142
  go_wp2_with (at_builtin; refine wpList_strB rfl _ _ rfl w1.heap.size (.slice ma made.length mc) made s rfl HW.out.2.2.2 rfl hl hsz ?_)
  intro v' z hz hgz
  obtain ⟨M, hM⟩ : ∃ M, made ++ s = M := ⟨_, rfl⟩
  rw [hM] at hz
  have HM := Lib.hid hM
  clear hM
  obtain ⟨va2, vc2, hv2⟩ := own_slice hz
  subst hv2
  have g0 := Hd.cell_at (HW.out.grown hgz) (j := 0) rfl
  have f0 : z.frozen? ⟨b, 0, none⟩ = false := by have := HW.out.grown hgz; simp [World.frozen?, this]
  have HP := Lib.hid (HW.out.put hgz hz)
  clear hz hgz c0
  go_wp2
  go_end0
  exact ⟨rfl, _, by rw [HM.out]; exact HP.out⟩
set_option maxRecDepth 100000 in
theorem headersOf_any (k : B) (w : World) : Calls Tryz.prog 143 #[sV k] w fun e w' => ∃ xv, e = .returned xv ∧ HRd xv (hds k) w' ∧ Kept w w' := by
  have HB := Lib.hid (show ∀ m, HRd (.slice (some ⟨w.heap.size, 0, none⟩) 2 2) (hds k) (w.alloc (.cells #[sV nmT, sV k, sV nmE, sV qpT] 41 m)) from fun m => by
    refine ⟨_, _, rfl, fun _ => ⟨_, _, rfl, Nat.le_refl _, fun i h hi => ?_⟩⟩
    have hn : ∀ j v, (#[sV nmT, sV k, sV nmE, sV qpT] : Array Value)[j]? = some v → (w.alloc (.cells #[sV nmT, sV k, sV nmE, sV qpT] 41 m)).cell? ⟨w.heap.size, j, none⟩ = some v := fun j v hj => by
      simp [World.cell?, World.alloc, -World.alloc_eq, hj]
    match i, hi with
    | 0, hi => simp [hds] at hi; subst hi; exact ⟨hn 0 _ rfl, hn 1 _ rfl⟩
    | 1, hi => simp [hds] at hi; subst hi; exact ⟨hn 2 _ rfl, hn 3 _ rfl⟩)
  have HK := Lib.hid (fun m => (Kept.refl w).alloc (.cells #[sV nmT, sV k, sV nmE, sV qpT] 41 m))
  go_enter Tryz.func143, Tryz.ntmps143
  go_wp2
  go_ret
  exact ⟨_, rfl, HB.out _, HK.out _⟩
theorem hds_len {k : B} (h : k.length ≤ 4000) : (lnA (hds k)).length ≤ 200000 := by
  have hk := (Hd.okA_all (hds_ok h)).1
  have := Hd.lns_len 76046 (hds k) (fun x hx => Hd.lnH_big (hk x hx))
  unfold lnA
  rw [show (hds k).length = 2 from rfl] at this
  rw [List.length_append]
  simp; omega
def pcX (x k c : B) : B := ([45, 45] ++ x ++ [13, 10]) ++ (lnA (hds k) ++ (c ++ [13, 10]))
set_option maxRecDepth 100000 in
set_option maxHeartbeats 2000000 in
theorem part_any (w1 : World) (b : Nat) (mv cv : Value) (made x k c : B) (w : World) (h : WrI w1 b mv made x w) (hE : Env w1) (hc : BRd cv c w1) (hk : k.length ≤ 4000) (hx : x.length ≤ 1000) (hcl : c.length ≤ 1000000000000) (hl : made.length ≤ 50000000000000) :
    Calls Tryz.prog 96 #[.pointer (some ⟨b, 0, none⟩), sV k, cv] w fun e w' => e = .returned (.tuple #[]) ∧ ∃ mv', WrI w1 b mv' (made ++ pcX x k c) x w' := by
  have hxs : (ByteArray.mk x.toArray).size = x.length := List.size_toArray
  have a1 : (⟨#[45, 45]⟩ ++ ⟨x.toArray⟩ : ByteArray) = ⟨([45, 45] ++ x).toArray⟩ := app_mk [45, 45] x
  have a2 : (⟨([45, 45] ++ x).toArray⟩ ++ ⟨#[13, 10]⟩ : ByteArray) = ⟨([45, 45] ++ x ++ [13, 10]).toArray⟩ := app_mk ([45, 45] ++ x) [13, 10]
  have a3 : (ByteArray.mk ([45, 45] ++ x).toArray).size = x.length + 2 := by rw [str_lit]; simp
  have c1 := h.c1
  have H0 := Lib.hid h
  have HE := Lib.hid hE
  have HC := Lib.hid hc
  obtain ⟨ca, cc, rfl⟩ := hc.slice
  have HL := Lib.hid (show pcX x k c = ([45, 45] ++ x ++ [13, 10]) ++ (lnA (hds k) ++ (c ++ [13, 10])) from rfl)
  have HOK := Lib.hid (And.intro (aE_ok (hds_ok hk)) (all_lnA (hds_ok hk)))
  have hhl := hds_len hk
  have HH := Lib.hid (fun w => headersOf_any k w)
  have hpl : ([45, 45] ++ x ++ [13, 10]).length ≤ 1004 := by simp; omega
  have HB := Lib.hid (show ∀ h ∈ hds k, h.1.length ≤ 100000000 ∧ h.2.length ≤ 100000000 from fun h hh => by
    simp only [hds, List.mem_cons, List.not_mem_nil, or_false] at hh
    rcases hh with rfl | rfl
    · exact ⟨by show nmT.length ≤ _; decide, by show k.length ≤ _; omega⟩
    · exact ⟨by show nmE.length ≤ _; decide, by show qpT.length ≤ _; decide⟩)
  have HWR := Lib.hid (fun s mv made w h hl => write_any w1 b mv made x s w h hl)
  clear h hE hc hk
  generalize [45, 45] ++ x ++ [13, 10] = P at *
  generalize [45, 45] ++ x = P0 at *
  generalize lnA (hds k) = L at *
  generalize hds k = hs at *
  go_enter Tryz.func96, Tryz.ntmps96
  go_wp2_with fail
  refine (HWR.out P _ _ _ H0.out (by omega)).mono ?_
  rintro e y1 ⟨rfl, mv1, hw1⟩
  have H1 := Lib.hid hw1
  clear hw1 c1 a1 a2 a3 H0
  go_wp2_with fail
  refine (HH.out _).mono ?_
  rintro e y2 ⟨hv, rfl, hhr, k2⟩
  have H2 := Lib.hid (H1.out.kept k2)
  have HR := Lib.hid hhr
  obtain ⟨ha, hcp, rfl⟩ := hhr.slice
  clear hhr k2 H1 HH
  go_wp2_with fail
  refine (all_any _ hs _ HR.out (HE.out.kept H2.out.1) HB.out).mono ?_
  rintro e y3 ⟨lv, rfl, hlo, k3⟩
  rw [HOK.out.2, Option.getD_some] at hlo
  rw [HOK.out.1]
  have H3 := Lib.hid (H2.out.kept k3)
  have LR := Lib.hid hlo.rd
  obtain ⟨la, lc, rfl⟩ := hlo.slice
  have m0 := H3.out.c0
  obtain ⟨ma, mc, rfl⟩ := own_slice H3.out.2.2.2
  have hsz := H3.out.size
  have hml : (made ++ P).length + L.length ≤ 100000000000000 := by simp; omega
  have hmx : (made ++ P).length ≤ 50000000001004 := by simp; omega
  clear hlo k3 H2 HR
  generalize hM1 : made ++ P = M1 at *
  have HM1 := Lib.hid hM1
  clear hM1
  go_wp2_with (at_builtin; refine wpList_sliceB rfl _ _ rfl w1.heap.size _ _ M1 L rfl H3.out.2.2.2 rfl LR.out hml hsz ?_)
  intro v' z hz hgz
  generalize hM2 : M1 ++ L = M2 at *
  obtain ⟨va2, vc2, hv2⟩ := own_slice hz
  subst hv2
  have g0 := Hd.cell_at (H3.out.grown hgz) (j := 0) rfl
  have f0 : z.frozen? ⟨b, 0, none⟩ = false := by have := H3.out.grown hgz; simp [World.frozen?, this]
  have H4 := Lib.hid (H3.out.put hgz hz)
  clear hz hgz m0 H3 LR
  go_upto_region 3 with (fail)
  have m0 := H4.out.c0
  have hsz := H4.out.size
  have CR := Lib.hid (HC.out.kept H4.out.1)
  have hml2 : M2.length + c.length ≤ 100000000000000 := by rw [← hM2, List.length_append]; omega
  have hmx2 : M2.length ≤ 50000000301004 := by rw [← hM2, List.length_append]; omega
  have HM2 := Lib.hid hM2
  clear hM2
  generalize z.setCell _ _ = z2 at *
  clear g0 f0
  go_wp2_with (at_builtin; refine wpList_sliceB rfl _ _ rfl w1.heap.size _ _ M2 c rfl H4.out.2.2.2 rfl CR.out hml2 hsz ?_)
  intro v' z hz hgz
  have hmx3 : (M2 ++ c).length ≤ 60000000301004 := by simp; omega
  have HF := Lib.hid (show (M2 ++ c) ++ [13, 10] = made ++ pcX x k c by rw [HL.out, ← HM2.out, ← HM1.out]; simp)
  generalize M2 ++ c = M3 at *
  obtain ⟨va2, vc2, hv2⟩ := own_slice hz
  subst hv2
  have g0 := Hd.cell_at (H4.out.grown hgz) (j := 0) rfl
  have f0 : z.frozen? ⟨b, 0, none⟩ = false := by have := H4.out.grown hgz; simp [World.frozen?, this]
  have H5 := Lib.hid (H4.out.put hgz hz)
  clear hz hgz m0 H4 CR
  go_upto_region 4 with (fail)
  generalize z.setCell _ _ = z2 at *
  clear g0 f0
  go_wp2_with fail
  refine (HWR.out [13, 10] _ _ _ H5.out (by simp; omega)).mono ?_
  rintro e y6 ⟨rfl, mv6, hw6⟩
  go_wp2
  go_end0
  exact ⟨rfl, mv6, by rw [← HF.out]; exact hw6⟩
set_option maxRecDepth 100000 in
set_option maxHeartbeats 1000000 in
theorem end_any (w1 : World) (b : Nat) (mv : Value) (made x : B) (w : World) (h : WrI w1 b mv made x w) (hx : x.length ≤ 1000) (hl : made.length ≤ 90000000000000) :
    Calls Tryz.prog 97 #[.pointer (some ⟨b, 0, none⟩)] w fun e w' => e = .returned (.tuple #[]) ∧ ∃ mv', WrI w1 b mv' (made ++ ([45, 45] ++ x ++ [45, 45] ++ [13, 10])) x w' := by
  have hxs : (ByteArray.mk x.toArray).size = x.length := List.size_toArray
  have a1 : (⟨#[45, 45]⟩ ++ ⟨x.toArray⟩ : ByteArray) = ⟨([45, 45] ++ x).toArray⟩ := app_mk [45, 45] x
  have a2 : (⟨([45, 45] ++ x).toArray⟩ ++ ⟨#[45, 45]⟩ : ByteArray) = ⟨([45, 45] ++ x ++ [45, 45]).toArray⟩ := app_mk ([45, 45] ++ x) [45, 45]
  have a4 : (⟨([45, 45] ++ x ++ [45, 45]).toArray⟩ ++ ⟨#[13, 10]⟩ : ByteArray) = ⟨([45, 45] ++ x ++ [45, 45] ++ [13, 10]).toArray⟩ := app_mk ([45, 45] ++ x ++ [45, 45]) [13, 10]
  have a3 : (ByteArray.mk ([45, 45] ++ x).toArray).size = x.length + 2 := by rw [str_lit]; simp
  have a5 : (ByteArray.mk ([45, 45] ++ x ++ [45, 45]).toArray).size = x.length + 4 := by rw [str_lit]; simp
  have hpl : ([45, 45] ++ x ++ [45, 45] ++ [13, 10]).length ≤ 1006 := by simp; omega
  have c1 := h.c1
  have H0 := Lib.hid h
  have HWR := Lib.hid (fun s mv made w h hl => write_any w1 b mv made x s w h hl)
  clear h
  generalize [45, 45] ++ x ++ [45, 45] ++ [13, 10] = P at *
  generalize [45, 45] ++ x ++ [45, 45] = P1 at *
  generalize [45, 45] ++ x = P0 at *
  go_enter Tryz.func97, Tryz.ntmps97
  go_wp2_with fail
  refine (HWR.out P _ _ _ H0.out (by omega)).mono ?_
  rintro e y1 ⟨rfl, mv1, hw1⟩
  go_wp2
  go_end0
  exact ⟨rfl, mv1, hw1⟩
end Go.Proofs.YtjlpkgipdkjfhaaGreatDoor.Bk.Pt
