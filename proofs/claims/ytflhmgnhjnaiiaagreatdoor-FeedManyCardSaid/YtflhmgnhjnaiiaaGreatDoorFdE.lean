/- Package feed: the first part of some names, its value. -/
import Derived.Test.YtflhmgnhjnaiiaaGreatDoorFdJ
set_option linter.unusedSimpArgs false
set_option linter.unusedVariables false
namespace Go.Proofs.YtflhmgnhjnaiiaaGreatDoor.Fd
open Go.ChangeShapes Go.WideShapes Go.ChangeAt Go.RowKit Go.Shelf
open En Xm
attribute [local go_sem] Oper.semAt_some
theorem Bv.frz {t : TypeId} {b : Nat} {v : Value} {W : World} (h : Bv t b v W) (j : Nat) : W.frozen? ⟨b, j, none⟩ = false := by unfold Bv at h; simp [World.frozen?, h]
theorem Bv.put {t : TypeId} {b : Nat} {v : Value} {W : World} (h : Bv t b v W) (v' : Value) : Bv t b v' (W.setCell ⟨b, 0, none⟩ v') := by
  unfold Bv at h ⊢
  simp [World.setCell, Array.getElem?_modify, h]
theorem Bv.other {t : TypeId} {b : Nat} {v : Value} {W : World} (h : Bv t b v W) {a : Addr} (ha : b ≠ a.block) (v' : Value) : Bv t b v (W.setCell a v') := by
  unfold Bv at h ⊢
  rw [Below.heap_setCell _ _ _ _ ha]; exact h
theorem set_other {W : World} {b : Nat} {o : Obj} (h : W.heap[b]? = some o) {a : Addr} {v : Value} (ha : b ≠ a.block) : (W.setCell a v).heap[b]? = some o := by
  rw [Below.heap_setCell _ _ _ _ ha]; exact h
/-- is there a part of some names? -/
def hasP (ns : List B) (l : List Tk) : Bool := !(prN ns l).isEmpty
set_option maxRecDepth 100000 in
set_option maxHeartbeats 4000000 in
theorem first_any (v nv : Value) (ns : List B) (t : Tk) (r : List Tk) (w : World) (h : TkRd v (t :: r) w) (hn : SRd nv ns w) (hF : Fw 1000000 (t :: r)) :
    Calls Tryz.prog 35 #[v, nv] w fun e w' => ∃ v', e = .returned (.tuple #[v', .bool (hasP ns (t :: r))]) ∧ TkRd v' (fstP ns (t :: r)) w' ∧ Kept w w' := by
  obtain ⟨a, c, rfl⟩ := h.slice
  obtain ⟨-, g, o, x, rfl, hc, -⟩ := h.at (i := 0) (t := t) rfl
  obtain ⟨g2, o2, c2, rfl, hn⟩ := hn
  have HN := Lib.hid hn
  have hg2 := hn.lt
  have HR := Lib.hid h; have HFW := Lib.hid hF
  generalize t :: r = l at *
  clear h hF hc hn
  have b0 := Bv.new w (.slice none 0 0) 44
  have k0 := (Kept.refl w).alloc (.cells #[.slice none 0 0] 44)
  have b1 := Bv.new (w.alloc (.cells #[.slice none 0 0] 44)) (.bool false) 4
  have k1 := (Kept.refl (w.alloc (.cells #[.slice none 0 0] 44))).alloc (.cells #[.bool false] 4)
  rw [show (w.alloc (.cells #[.slice none 0 0] 44)).heap.size = w.heap.size + 1 by simp] at b1
  refine (callsIn_wide (n := 9)).1 ?_
  refine callsIn_of_wp_marks Tryz.func35 rfl trivial ?_ rfl
  simp only [Tryz.ntmps35, List.size_toArray, List.length_cons, List.length_nil, Nat.reduceAdd, Nat.reduceSub, Array.replicate_succ, Array.replicate_zero, List.push_toArray, List.append_toArray, List.nil_append, List.cons_append]
  gi_upto_region 1 with (fail)
  generalize (w.alloc (.cells #[.slice none 0 0] 44)).alloc (.cells #[.bool false] 4) = X at *
  have BX := Lib.hid (And.intro (b0.kept k1) b1)
  have KX := Lib.hid (k0.trans k1)
  clear b0 b1 k0 k1
  have lt0 := BX.out.1.lt; have lt1 := BX.out.2.lt
  gi_wp2_with (refine ⟨trivial, ?_⟩; gi_at_call 36; refine (callsIn_wide.2 (named_any g o l.length c g2 o2 c2 ns _ (HN.out.kept KX.out))).mono ?_; rintro e X2 ⟨f, h, rfl, C2, f1, h1⟩)
  have K2 := Lib.hid (KX.out.trans C2.k)
  have B2 := Lib.hid (And.intro (BX.out.1.kept C2.k) (BX.out.2.kept C2.k))
  have hX2 := C2.k.size
  have CX := Lib.hid (show NCap w f h (.slice (some ⟨g, o, none⟩) l.length c) g2 o2 c2 ns X2 from ⟨K2.out, C2.f, C2.h, C2.n⟩)
  have ltf := C2.f.lt; have lth := C2.h.lt
  have hz2 := K2.out.size
  clear C2 BX KX
  refine range_itr (n := 9) (gf := 50) (lb := #[.pointer (some ⟨f, 0, none⟩), .pointer (some ⟨h, 0, none⟩)]) rfl (enters_of Tryz.func50 (by kernel_rfl) rfl) hz2
    (named_itr g o l.length c f h g2 o2 c2 ns l w HR.out HFW.out) (fun s arr s' hs => by obtain ⟨_, _, rfl, _⟩ := hs; rfl)
    (fun k _ => k = w.heap.size ∨ k = w.heap.size + 1) (fun k _ hk => ⟨by omega, Or.inl (by omega)⟩) CX.out
    (fun A B v q => by
      refine ⟨⟨v.os.trans q.k.os, v.output.trans q.k.output, Nat.le_trans q.k.size v.size, fun k hk => ?_, v.tape.trans q.k.tape⟩, q.f.save v (fun r => by omega), q.h.save v (fun r => by omega), q.n.save v (fun _ _ r => by omega)⟩
      obtain ⟨ob, hob⟩ := at_some (A := A) (k := k) (Nat.lt_of_lt_of_le hk q.k.size)
      rw [v.block k ob hob (fun r => by omega), ← hob, q.k.block k hk])
    (fun k V => k = 0 ∧ Bv 44 w.heap.size (.slice none 0 0) V ∧ Bv 4 (w.heap.size + 1) (.bool false) V ∧ Kept w V)
    (fun q k V => q = .ret ∧ ∃ p, prN ns l ≠ [] ∧ (prN ns l).head? = some p ∧ Bv 44 w.heap.size (pv g o c p) V ∧ Bv 4 (w.heap.size + 1) (.bool true) V ∧ Kept w V)
    ?hI ?hIx ⟨rfl, B2.out.1, B2.out.2, K2.out⟩ ?round ?done ?stop
  case hI =>
    rintro k A B ⟨h1, h2, h3, h4⟩ kb
    exact ⟨h1, h2.fwd kb (by omega), h3.fwd kb (by omega), kept_fwd h4 kb (by omega)⟩
  case hIx =>
    rintro q k A B ⟨h1, p, h0, h5, h2, h3, h4⟩ kb
    exact ⟨h1, p, h0, h5, h2.fwd kb (by omega), h3.fwd kb (by omega), kept_fwd h4 kb (by omega)⟩
  case round =>
    rintro l2 k arr k' V ⟨pvv, hpv, rfl, rfl⟩ ⟨rfl, hb0, hb1, hk⟩ hsz K hK
    rw [List.getElem?_map, Option.map_eq_some_iff] at hpv
    obtain ⟨p, hp, rfl⟩ := hpv
    have HP := Lib.hid (show prN ns l ≠ [] ∧ (prN ns l).head? = some p by
      cases hc : prN ns l with
      | nil => rw [hc] at hp; cases hp
      | cons a b => rw [hc] at hp; cases hp; exact ⟨by simp, rfl⟩)
    have HB := Lib.hid (And.intro hb0 hb1); have HKV := Lib.hid hk
    clear hp hb0 hb1 hk
    unfold pv
    simp only [List.zip_toArray, List.zip_cons_cons, List.zip_nil_right, List.foldl_toArray, List.foldl_cons, List.foldl_nil, List.setIfInBounds_toArray, List.set_cons_zero, List.set_cons_succ]
    gi_wp2
    refine hK _ _ (Kept.refl V) (fun W2 v2 d2 => ?_)
    have kV : Below X2.heap.size V W2 := v2.below (by omega) (fun k _ _ h => by omega)
    have q0 := HB.out.1.sub kV (by omega)
    have q1 := HB.out.2.sub kV (by omega)
    have fr0 := q0.frz 0
    have e0 := q0.c
    have n0 := q0.put (.slice (some ⟨g, o + p.1 * 4, none⟩) (p.2 - p.1) (c - p.1))
    have n1 := q1.other (a := ⟨w.heap.size, 0, none⟩) (by simp) (.slice (some ⟨g, o + p.1 * 4, none⟩) (p.2 - p.1) (c - p.1))
    have e1 := n1.c
    have fr1 := n1.frz 0
    have K9 := Lib.hid (((kept_sub HKV.out kV (by omega)).setCell (a := ⟨w.heap.size, 0, none⟩) (Nat.le_refl _) (.slice (some ⟨g, o + p.1 * 4, none⟩) (p.2 - p.1) (c - p.1))).setCell (a := ⟨w.heap.size + 1, 0, none⟩) (by simp) (.bool true))
    have N0 := Lib.hid (n0.other (a := ⟨w.heap.size + 1, 0, none⟩) (by simp) (.bool true))
    have N1 := Lib.hid (n1.put (.bool true))
    clear q0 q1 n0 n1 hK
    gi_wp2
    exact ⟨(Save.set _ (fun _ _ => Or.inl rfl)).trans (Save.set _ (fun _ _ => Or.inr rfl)), rfl, p, HP.out.1, HP.out.2, N0.out, N1.out, K9.out⟩
  case done =>
    rintro k V hend ⟨rfl, hb0, hb1, hk⟩ hv hK
    have HNP := Lib.hid (show prN ns l = [] from List.length_eq_zero_iff.1 hend.symm)
    have n0 := hb0.put (.slice none 0 0)
    have n1 := hb1.other (a := ⟨w.heap.size, 0, none⟩) (by simp) (.slice none 0 0)
    have fr0 := hb0.frz 0; have e0 := hb0.c
    have fr1 := n1.frz 0; have e1 := n1.c
    have K9 := Lib.hid ((hk.setCell (a := ⟨w.heap.size, 0, none⟩) (Nat.le_refl _) (.slice none 0 0)).setCell (a := ⟨w.heap.size + 1, 0, none⟩) (by simp) (.bool false))
    have N0 := Lib.hid (n0.other (a := ⟨w.heap.size + 1, 0, none⟩) (by simp) (.bool false))
    have N1 := Lib.hid (n1.put (.bool false))
    clear hend hb0 hb1 hk hv n0 n1
    gi_wp2
    refine ⟨by simp, .inl ⟨_, _, rfl, run_takeDeferred (set_other (set_other hK (by simp only; omega)) (by simp only; omega)), ?_⟩⟩
    have vz : Save (fun k _ => k = X2.heap.size) ((V.setCell ⟨w.heap.size, 0, none⟩ (.slice none 0 0)).setCell ⟨w.heap.size + 1, 0, none⟩ (.bool false)) _ := Save.put (.deferred none) (fun _ _ => rfl)
    have cz0 := (N0.out.save vz (by omega)).c
    have cz1 := (N1.out.save vz (by omega)).c
    refine ⟨.tuple #[.slice none 0 0, .bool false], by simp [results, Tryz.results35, go_sem, cz0, cz1], .slice none 0 0, ?_, ?_, kept_sub K9.out (vz.below (n := w.heap.size) (by have := K9.out.size; omega) (fun k _ _ h => by omega)) (Nat.le_refl _)⟩
    · unfold hasP; rw [HNP.out]; rfl
    · rw [fstP_eq, HNP.out]
      exact ⟨none, 0, rfl, fun q => absurd rfl q⟩
  case stop =>
    rintro q k V ⟨rfl, p, hp0, hp, hb0, hb1, hk⟩ hv hK
    have HB := Lib.hid (And.intro hb0 hb1); have HKV := Lib.hid hk
    have HP := Lib.hid (And.intro hp0 hp)
    clear hb0 hb1 hk hv hp0 hp
    unfold pv at HB
    gi_wp2
    refine ⟨by simp, .inl ⟨_, _, rfl, run_takeDeferred hK, ?_⟩⟩
    have vz : Save (fun k _ => k = X2.heap.size) V _ := Save.put (.deferred none) (fun _ _ => rfl)
    have cz0 := (HB.out.1.save vz (by omega)).c
    have cz1 := (HB.out.2.save vz (by omega)).c
    have KZ := kept_sub HKV.out (vz.below (n := w.heap.size) (by have := HKV.out.size; omega) (fun k _ _ h => by omega)) (Nat.le_refl _)
    refine ⟨.tuple #[.slice (some ⟨g, o + p.1 * 4, none⟩) (p.2 - p.1) (c - p.1), .bool true], by simp [results, Tryz.results35, go_sem, cz0, cz1], .slice (some ⟨g, o + p.1 * 4, none⟩) (p.2 - p.1) (c - p.1), ?_, ?_, KZ⟩
    · unfold hasP
      cases hc : prN ns l with
      | nil => exact absurd hc HP.out.1
      | cons a b => rfl
    · rw [fstP_eq]
      cases hc : prN ns l with
      | nil => exact absurd hc HP.out.1
      | cons a b =>
        have he : a = p := by have := HP.out.2; rw [hc] at this; exact Option.some.inj this
        subst he
        have hm : a ∈ prs l := (List.mem_filter.1 (show a ∈ prN ns l by rw [hc]; exact List.mem_cons_self)).1
        exact (rd_cut HR.out a (prs_bd hm)).kept KZ
theorem Fw.fst {K : Nat} {l : List Tk} (h : Fw K l) (ns : List B) : Fw K (fstP ns l) := Fw.sub h (fstP_sub ns l)
set_option maxRecDepth 100000 in
set_option maxHeartbeats 1000000 in
theorem valueOf_any (v nv : Value) (ns : List B) (t : Tk) (r : List Tk) (w : World) (h : TkRd v (t :: r) w) (hn : SRd nv ns w) (hF : Fw 1000000 (t :: r)) (hE : Env w) (hT : (txs (t :: r)).length ≤ 100000) :
    Calls Tryz.prog 23 #[v, nv] w fun e w' => e = .returned (sV (vOf ns (t :: r))) ∧ Kept w w' := by
  have HC := Lib.hid (first_any v nv ns t r w h hn hF)
  have HV := Lib.hid (show vOf ns (t :: r) = val (fstP ns (t :: r)) from rfl)
  have HF := Lib.hid (Fw.fst hF ns)
  have HT := Lib.hid (Nat.le_trans (txs_sub (fstP_sub ns (t :: r))) hT)
  have HE := Lib.hid hE
  obtain ⟨a, c, rfl⟩ := h.slice
  obtain ⟨g2, o2, c2, rfl, -⟩ := hn
  clear h hF hE hT
  generalize vOf ns (t :: r) = vv at *
  generalize hasP ns (t :: r) = hp at *
  generalize fstP ns (t :: r) = q at *
  generalize (t :: r).length = m at *
  go_enter Tryz.func23, Tryz.ntmps23
  go_wp2_with fail
  refine HC.out.mono ?_
  rintro e w1 ⟨v', rfl, hq, k1⟩
  have HQ := Lib.hid hq
  obtain ⟨a', c', rfl⟩ := hq.slice
  have K1 := Lib.hid k1
  clear hq k1 HC
  generalize q.length = m' at *
  go_wp2_with fail
  refine (value_any _ q w1 HQ.out (HE.out.kept K1.out) HF.out HT.out).mono ?_
  rintro e w2 ⟨rfl, k2⟩
  go_wp2
  go_ret
  exact ⟨by rw [HV.out]; rfl, K1.out.trans k2⟩
end Go.Proofs.YtflhmgnhjnaiiaaGreatDoor.Fd
