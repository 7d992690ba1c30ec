/- Package feed: an entry's link and its time. -/
import Derived.Test.YtflhmgnhjnaiiaaGreatDoorFdE
import Derived.Test.YtflhmgnhjnaiiaaGreatDoorStB
set_option linter.unusedSimpArgs false
set_option linter.unusedVariables false
namespace Go.Proofs.YtflhmgnhjnaiiaaGreatDoor.Fd
open Go.ChangeShapes Go.WideShapes Go.ChangeAt Go.RowKit Go.Shelf
open En Xm
attribute [local go_sem] Oper.semAt_some
noncomputable abbrev secQ (l : B) : Int := secP Sm.rparse l
set_option maxRecDepth 100000 in
set_option maxHeartbeats 1000000 in
theorem second_any (l : B) (w : World) : Calls Tryz.prog 146 #[sV l] w fun e w' => e = .returned (iV (secQ l)) ∧ Kept w w' := by
  have HP := Lib.hid (Sm.parse_any l w)
  have HS := Lib.hid (show secQ l = match Sm.rparse l with
    | none => 0
    | some s => if s < 0 ∨ 253402300799 < s then 0 else s from rfl)
  generalize secQ l = q at *
  generalize Sm.rparse l = o at *
  go_enter Tryz.func146, Tryz.ntmps146
  go_wp2_with fail
  refine HP.out.mono ?_
  intro e w1 hp
  cases o with
  | none =>
    obtain ⟨rfl, k1⟩ := hp
    go_wp2
    go_ret
    exact ⟨by rw [HS.out]; rfl, k1⟩
  | some s =>
    obtain ⟨rfl, k1⟩ := hp
    by_cases h1 : s < 0
    · have HQ := Lib.hid (show q = 0 by rw [HS.out]; simp only; rw [if_pos (Or.inl h1)])
      go_wp2
      go_ret
      exact ⟨by rw [HQ.out]; rfl, k1⟩
    · by_cases h2 : 253402300799 < s
      · have HQ := Lib.hid (show q = 0 by rw [HS.out]; simp only; rw [if_pos (Or.inr h2)])
        go_wp2
        go_ret
        exact ⟨by rw [HQ.out]; rfl, k1⟩
      · have HQ := Lib.hid (show q = s by rw [HS.out]; simp only; rw [if_neg (by omega)])
        go_wp2
        go_ret
        exact ⟨by rw [HQ.out]; rfl, k1⟩
/-- names in a row that a call has made -/
theorem sr_new (w : World) (ns : List B) (hl : ns.length ≤ 10) (m : Nat × Nat) : SR w.heap.size 0 ns (w.alloc (.cells (ns.map sV).toArray 9 m)) :=
  ⟨hl, ⟨_, _, World.alloc_heap_new w _⟩, fun i s hs => by
    rw [Nat.zero_add]
    simp [World.cell?, World.alloc, -World.alloc_eq, hs]⟩
theorem drop_map {α β : Type} {l : List α} {k : Nat} {x : α} (f : α → β) (h : l[k]? = some x) : (l.drop k).map f = f x :: (l.drop (k + 1)).map f := by
  obtain ⟨hi, rfl⟩ := List.getElem?_eq_some_iff.1 h
  rw [List.drop_eq_getElem_cons hi, List.map_cons]
set_option maxRecDepth 100000 in
set_option maxHeartbeats 8000000 in
theorem alternate_any (v : Value) (t : Tk) (r : List Tk) (w : World) (h : TkRd v (t :: r) w) (hF : Fw 1000000 (t :: r)) :
    Calls Tryz.prog 145 #[v] w fun e w' => e = .returned (sV (alt (t :: r))) ∧ Kept w w' := by
  obtain ⟨a, c, rfl⟩ := h.slice
  obtain ⟨-, g, o, x, rfl, hc, -⟩ := h.at (i := 0) (t := t) rfl
  have HR := Lib.hid h; have HFW := Lib.hid hF
  have HA := Lib.hid (show alt (t :: r) = altF (((prN [sLink] (t :: r)).drop 0).map (cutP (t :: r))) by unfold alt; rw [prN_named]; rfl)
  generalize alt (t :: r) = al at *
  generalize t :: r = l at *
  clear h hF hc
  have b0 := Bv.new w (sV []) 9
  have k0 := (Kept.refl w).alloc (.cells #[sV []] 9)
  have hs0 : (w.alloc (.cells #[sV []] 9)).heap.size = w.heap.size + 1 := by simp
  refine (callsIn_wide (n := 9)).1 ?_
  refine callsIn_of_wp_marks Tryz.func145 rfl trivial ?_ rfl
  simp only [Tryz.ntmps145, List.size_toArray, List.length_cons, List.length_nil, Nat.reduceAdd, Nat.reduceSub, Array.replicate_succ, Array.replicate_zero, List.push_toArray, List.append_toArray, List.nil_append, List.cons_append]
  gi_upto_region 1 with (fail)
  generalize w.alloc (.cells #[sV []] 9) = X0 at *
  have n1 := sr_new X0 [sLink] (by simp) (0, 0)
  have k1 := (Kept.refl X0).alloc (.cells #[sV sLink] 9)
  rw [hs0] at n1
  have HNX := Lib.hid (show SR (w.heap.size + 1) 0 [sLink] (X0.alloc (.cells #[.string ⟨#[108, 105, 110, 107]⟩] 9)) from n1)
  have BX := Lib.hid (show Bv 9 w.heap.size (sV []) (X0.alloc (.cells #[.string ⟨#[108, 105, 110, 107]⟩] 9)) from b0.kept k1)
  have KX := Lib.hid (show Kept w (X0.alloc (.cells #[.string ⟨#[108, 105, 110, 107]⟩] 9)) from k0.trans k1)
  clear b0 k0 n1 k1
  gi_wp2_with (refine ⟨trivial, ?_⟩; gi_at_call 36; refine (callsIn_wide.2 (named_any g o l.length c (w.heap.size + 1) 0 1 [sLink] _ HNX.out)).mono ?_; rintro e X2 ⟨f, h, rfl, C2, f1, h1⟩)
  generalize X0.alloc (.cells #[.string ⟨#[108, 105, 110, 107]⟩] 9) = X1 at *
  have K2 := Lib.hid (KX.out.trans C2.k)
  have B2 := Lib.hid (BX.out.kept C2.k)
  have lb := BX.out.lt; have ln := HNX.out.lt
  have hX2 := C2.k.size
  have CX := Lib.hid (show NCap w f h (.slice (some ⟨g, o, none⟩) l.length c) (w.heap.size + 1) 0 1 [sLink] X2 from ⟨K2.out, C2.f, C2.h, C2.n⟩)
  have ltf := C2.f.lt; have lth := C2.h.lt
  have hz2 := K2.out.size
  clear C2 BX KX HNX hs0
  generalize hps : prN [sLink] l = ps at *
  have HPS := Lib.hid hps
  clear hps
  refine range_itr (n := 9) (gf := 50) (lb := #[.pointer (some ⟨f, 0, none⟩), .pointer (some ⟨h, 0, none⟩)]) rfl (enters_of Tryz.func50 (by kernel_rfl) rfl) hz2
    (named_itr g o l.length c f h (w.heap.size + 1) 0 1 [sLink] l w HR.out HFW.out) (fun s arr s' hs => by obtain ⟨_, _, rfl, _⟩ := hs; rfl)
    (fun k _ => k = w.heap.size) (fun k _ hk => ⟨by omega, Or.inl (by omega)⟩) CX.out
    (fun A B v q => by
      refine ⟨⟨v.os.trans q.k.os, v.output.trans q.k.output, Nat.le_trans q.k.size v.size, fun k hk => ?_, v.tape.trans q.k.tape⟩, q.f.save v (fun r => by omega), q.h.save v (fun r => by omega), q.n.save v (fun _ _ r => by omega)⟩
      obtain ⟨ob, hob⟩ := at_some (A := A) (k := k) (Nat.lt_of_lt_of_le hk q.k.size)
      rw [v.block k ob hob (fun r => by omega), ← hob, q.k.block k hk])
    (fun k V => Hid (altF ((ps.drop k).map (cutP l)) = al) ∧ Bv 9 w.heap.size (sV []) V ∧ Kept w V)
    (fun q k V => q = .ret ∧ Bv 9 w.heap.size (sV al) V ∧ Kept w V)
    ?hI ?hIx ⟨Lib.hid HA.out.symm, B2.out, K2.out⟩ ?round ?done ?stop
  case hI =>
    rintro k A B ⟨h1, h2, h4⟩ kb
    exact ⟨h1, h2.fwd kb (by omega), kept_fwd h4 kb (by omega)⟩
  case hIx =>
    rintro q k A B ⟨h1, h2, h4⟩ kb
    exact ⟨h1, h2.fwd kb (by omega), kept_fwd h4 kb (by omega)⟩
  case done =>
    rintro k V hend ⟨hal, hb, hk⟩ hv hK
    have HAL := Lib.hid (show al = [] by
      have := hal.out
      rw [List.drop_of_length_le (by rw [hend, HPS.out]; exact Nat.le_refl _)] at this
      exact this.symm)
    have n0 := hb.put (sV [])
    have fr0 := hb.frz 0; have e0 := hb.c
    have K9 := Lib.hid (hk.setCell (a := ⟨w.heap.size, 0, none⟩) (Nat.le_refl _) (sV []))
    have N0 := Lib.hid n0
    clear hend hal hb hk hv n0
    gi_wp2
    refine ⟨by simp, .inl ⟨_, _, rfl, run_takeDeferred (set_other hK (by simp only; omega)), ?_⟩⟩
    have vz : Save (fun k _ => k = X2.heap.size) (V.setCell ⟨w.heap.size, 0, none⟩ (sV [])) _ := Save.put (.deferred none) (fun _ _ => rfl)
    have cz0 := (N0.out.save vz (by omega)).c
    exact ⟨sV [], by simp [results, Tryz.results145, go_sem, cz0], by rw [HAL.out], kept_sub K9.out (vz.below (n := w.heap.size) (by have := K9.out.size; omega) (fun k _ _ h => by omega)) (Nat.le_refl _)⟩
  case stop =>
    rintro q k V ⟨rfl, hb, hk⟩ hv hK
    have HB := Lib.hid hb; have HKV := Lib.hid hk
    clear hb hk hv
    gi_wp2
    refine ⟨by simp, .inl ⟨_, _, rfl, run_takeDeferred hK, ?_⟩⟩
    have vz : Save (fun k _ => k = X2.heap.size) V _ := Save.put (.deferred none) (fun _ _ => rfl)
    have cz0 := (HB.out.save vz (by omega)).c
    exact ⟨sV al, by simp [results, Tryz.results145, go_sem, cz0], rfl, kept_sub HKV.out (vz.below (n := w.heap.size) (by have := HKV.out.size; omega) (fun k _ _ h => by omega)) (Nat.le_refl _)⟩
  case round =>
    rintro l2 k arr k' V ⟨pvv, hpv, rfl, rfl⟩ ⟨hal, hb, hk⟩ hsz K hK
    rw [List.getElem?_map, Option.map_eq_some_iff, HPS.out] at hpv
    obtain ⟨p, hp, rfl⟩ := hpv
    have hpb := prs_bd (List.mem_filter.1 (show p ∈ prN [sLink] l by rw [HPS.out]; exact List.mem_of_getElem? hp)).1
    obtain ⟨t', r', htr⟩ : ∃ t r, cutP l p = t :: r := by
      cases hc : cutP l p with
      | nil => have := cutP_len hpb; rw [hc] at this; simp at this; omega
      | cons t r => exact ⟨t, r, rfl⟩
    have HPR := Lib.hid (show TkRd (.slice (some ⟨g, o + p.1 * 4, none⟩) (p.2 - p.1) (c - p.1)) (t' :: r') w by rw [← htr]; exact rd_cut HR.out p hpb)
    have HPF := Lib.hid (show Fw 1000000 (t' :: r') by rw [← htr]; exact Fw.sub HFW.out (cutP_sub l p))
    have HAL := Lib.hid (show (if othP (t' :: r') = true then altF ((ps.drop (k + 1)).map (cutP l)) else (at1 sHref (t' :: r')).getD []) = al by
      have := hal.out
      rw [drop_map _ hp, htr, altF] at this
      exact this)
    have HB := Lib.hid hb; have HKV := Lib.hid hk
    clear hp hb hk hal htr
    unfold pv
    simp only [List.zip_toArray, List.zip_cons_cons, List.zip_nil_right, List.foldl_toArray, List.foldl_cons, List.foldl_nil, List.setIfInBounds_toArray, List.set_cons_zero, List.set_cons_succ]
    gi_wp2
    refine hK _ _ (Kept.refl V) (fun W2 v2 d2 => ?_)
    have kV : Below X2.heap.size V W2 := v2.below (by omega) (fun k _ _ h => by omega)
    have B3 := Lib.hid (HB.out.sub kV (by omega))
    have K3 := Lib.hid (kept_sub HKV.out kV (by omega))
    clear hK v2 kV HB HKV
    have HO := Lib.hid (show othP (t' :: r') = match at1 sRel (t' :: r') with
      | none => false
      | some x => x != sAlt from rfl)
    generalize othP (t' :: r') = ot at *
    have goon : ∀ (tmps : Array Value) (W3 : World), Kept W2 W3 → ot = true → rgPost (fun k _ => k = w.heap.size) (fun k V => Hid (altF ((ps.drop k).map (cutP l)) = al) ∧ Bv 9 w.heap.size (sV []) V ∧ Kept w V) (fun q k V => q = .ret ∧ Bv 9 w.heap.size (sV al) V ∧ Kept w V) (k + 1) W2 .normal { tmps := tmps, defers := [] } W3 := fun tmps W3 k3 ho =>
      ⟨Save.of_kept _ k3, Lib.hid (by rw [← HAL.out, if_pos ho]), B3.out.kept k3, K3.out.trans k3⟩
    have GO := Lib.hid goon
    clear goon
    have HAT := Lib.hid (fun nm x (hx : Kept W2 x) => attr_any _ t' r' nm x ((HPR.out.kept K3.out).kept hx) HPF.out)
    generalize hat1 : at1 sRel (t' :: r') = o1 at *
    have HT1 := Lib.hid hat1
    clear hat1
    generalize hat2 : at1 sHref (t' :: r') = o2 at *
    have HT2 := Lib.hid hat2
    clear hat2
    gi_upto_region 4 with (refine ⟨trivial, ?_⟩; gi_at_call 147; refine (CallsIn.inRound l2 (callsIn_wide.2 (HAT.out sRel _ (Kept.refl W2)))).mono ?_; rintro e W3 ⟨rfl, k3⟩; rw [HT1.out])
    cases o1 with
    | none =>
      have HZ := Lib.hid (show al = o2.getD [] by rw [← HAL.out, HO.out, if_neg (by decide)])
      clear HO HAL GO
      simp only [Option.getD_none, Option.isSome_none]
      gi_wp2_with (refine ⟨trivial, ?_⟩; gi_at_call 147; refine (CallsIn.inRound l2 (callsIn_wide.2 (HAT.out sHref _ k3))).mono ?_; rintro e W4 ⟨rfl, k4⟩; rw [HT2.out]; have q0 := B3.out.kept (k3.trans k4); have fr0 := q0.frz 0; have e0 := q0.c; have N0 := Lib.hid (q0.put (sV (o2.getD []))); have K4 := Lib.hid (k3.trans k4); clear k4 q0)
      exact ⟨(Save.of_kept _ K4.out).trans (Save.set _ (fun _ _ => rfl)), rfl, by rw [HZ.out]; exact N0.out, (K3.out.trans K4.out).setCell (a := ⟨w.heap.size, 0, none⟩) (Nat.le_refl _) _⟩
    | some x =>
      simp only [Option.getD_some, Option.isSome_some]
      by_cases hx : x = sAlt
      · have hb : (x == [97, 108, 116, 101, 114, 110, 97, 116, 101]) = true := by rw [hx]; rfl
        have HZ := Lib.hid (show al = o2.getD [] by rw [← HAL.out, HO.out, if_neg (by simp [hx])])
        clear HO HAL GO hx
        gi_wp2_with (refine ⟨trivial, ?_⟩; gi_at_call 147; refine (CallsIn.inRound l2 (callsIn_wide.2 (HAT.out sHref _ k3))).mono ?_; rintro e W4 ⟨rfl, k4⟩; rw [HT2.out]; have q0 := B3.out.kept (k3.trans k4); have fr0 := q0.frz 0; have e0 := q0.c; have N0 := Lib.hid (q0.put (sV (o2.getD []))); have K4 := Lib.hid (k3.trans k4); clear k4 q0)
        exact ⟨(Save.of_kept _ K4.out).trans (Save.set _ (fun _ _ => rfl)), rfl, by rw [HZ.out]; exact N0.out, (K3.out.trans K4.out).setCell (a := ⟨w.heap.size, 0, none⟩) (Nat.le_refl _) _⟩
      · have hb : (x == [97, 108, 116, 101, 114, 110, 97, 116, 101]) = false := by simpa [sAlt] using hx
        have HZ := Lib.hid (show ot = true by rw [HO.out]; simpa using hx)
        clear HO HAL hx
        gi_wp2
        exact GO.out _ _ k3 HZ.out
end Go.Proofs.YtflhmgnhjnaiiaaGreatDoor.Fd
