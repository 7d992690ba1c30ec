/- Package feed: the parts of some names, told by a function to range over. -/
import Derived.Test.YtflhmgnhjnaiiaaGreatDoorFdI
import Derived.Sort.CutIn
set_option linter.unusedSimpArgs false
set_option linter.unusedVariables false
namespace Go.Proofs.YtflhmgnhjnaiiaaGreatDoor.Fd
open Go.ChangeShapes Go.WideShapes Go.ChangeAt Go.RowKit Go.Shelf
open En Xm
attribute [local go_sem] Oper.semAt_some
/-- names, to be read -/
def SR (g o : Nat) (ns : List B) (w : World) : Prop := ns.length ≤ 10 ∧ (∃ cs fz, w.heap[g]? = some (.cells cs 9 fz)) ∧ ∀ (i : Nat) (s : B), ns[i]? = some s → w.cell? ⟨g, o + i, none⟩ = some (sV s)
def SRd (v : Value) (ns : List B) (w : World) : Prop := ∃ g o c, v = .slice (some ⟨g, o, none⟩) ns.length c ∧ SR g o ns w
theorem SR.lt {g o : Nat} {ns : List B} {w : World} (h : SR g o ns w) : g < w.heap.size := by
  obtain ⟨cs, fz, q⟩ := h.2.1
  exact (Array.getElem?_eq_some_iff.1 q).1
theorem SR.save {g o : Nat} {ns : List B} {A B : World} {M : Nat → Obj → Prop} (h : SR g o ns A) (k : Save M A B) (hm : ∀ cs fz, ¬ M g (.cells cs 9 fz)) : SR g o ns B := by
  obtain ⟨cs, fz, q⟩ := h.2.1
  have q2 := k.block g _ q (hm cs fz)
  refine ⟨h.1, ⟨cs, fz, q2⟩, fun i s hs => ?_⟩
  have := h.2.2 i s hs
  unfold World.cell? at this ⊢
  rw [q] at this
  rw [q2]; exact this
theorem SR.kept {g o : Nat} {ns : List B} {w w' : World} (h : SR g o ns w) (k : Kept w w') : SR g o ns w' := h.save (Save.of_kept (fun _ _ => False) k) (fun _ _ q => q)
theorem SR.sub {g o n : Nat} {ns : List B} {A B : World} (h : SR g o ns A) (k : Below n A B) (hg : g < n) : SR g o ns B := by
  obtain ⟨cs, fz, q⟩ := h.2.1
  have q2 := (k.block g hg).trans q
  refine ⟨h.1, ⟨cs, fz, q2⟩, fun i s hs => ?_⟩
  have := h.2.2 i s hs
  unfold World.cell? at this ⊢
  rw [q] at this
  rw [q2]; exact this
theorem SRd.kept {v : Value} {ns : List B} {w w' : World} (h : SRd v ns w) (k : Kept w w') : SRd v ns w' := by
  obtain ⟨g, o, c, hv, h⟩ := h
  exact ⟨g, o, c, hv, h.kept k⟩
theorem containsS_eq (ns : List B) (x : B) : Lib.containsS (ns.map fun s => ByteArray.mk s.toArray) ⟨x.toArray⟩ = ns.contains x := by
  rw [Bool.eq_iff_iff, Lib.containsS_iff, List.contains_iff_mem]
  simp only [List.mem_map]
  constructor
  · rintro ⟨s, hs, e⟩
    have := congrArg (fun b : ByteArray => b.data.toList) e
    simp at this
    rwa [← this]
  · exact fun hx => ⟨x, hx, rfl⟩
theorem contains_any (v : Value) (ns : List B) (x : B) (w : World) (h : SRd v ns w) : Calls Tryz.prog 52 #[v, sV x] w fun e w' => e = .returned (.bool (ns.contains x)) ∧ w = w' := by
  obtain ⟨g, o, c, rfl, hl, -, h⟩ := h
  refine (Tryz.slices_Contains_string g o ns.length c (ns.map fun s => ByteArray.mk s.toArray) ⟨x.toArray⟩ w (by simp) (by omega) (fun j hj => ?_)).mono ?_
  · rw [List.length_map] at hj
    rw [h j ns[j] (List.getElem?_eq_getElem hj)]
    simp [List.getD, List.getElem?_map, hj]
  · rintro e w' ⟨rfl, rfl⟩
    rw [List.take_of_length_le (by simp), containsS_eq]
    exact ⟨rfl, rfl⟩
/-- what the function of some parts has captured -/
structure NCap (w0 : World) (f h : Nat) (v : Value) (g2 o2 c2 : Nat) (ns : List B) (W : World) : Prop where
  k : Kept w0 W
  f : Bv 44 f v W
  h : Bv 78 h (.slice (some ⟨g2, o2, none⟩) ns.length c2) W
  n : SR g2 o2 ns W
theorem SR.fwd {E : TypeId} {g o n : Nat} {ns : List B} {A B : World} (h : SR g o ns A) (k : Fwd E n A B) (hg : g < n) : SR g o ns B := h.save k (fun _ _ q => by omega)
theorem NCap.fwd {E : TypeId} {w0 : World} {f h : Nat} {v : Value} {g2 o2 c2 : Nat} {ns : List B} {A B : World} (q : NCap w0 f h v g2 o2 c2 ns A) {n : Nat} (k : Fwd E n A B) (h0 : w0.heap.size ≤ n) (h1 : f < n) (h2 : h < n) (h3 : g2 < n) : NCap w0 f h v g2 o2 c2 ns B :=
  ⟨kept_fwd q.k k h0, q.f.fwd k h1, q.h.fwd k h2, q.n.fwd k h3⟩
theorem NCap.sub {w0 : World} {f h : Nat} {v : Value} {g2 o2 c2 : Nat} {ns : List B} {A B : World} (q : NCap w0 f h v g2 o2 c2 ns A) {n : Nat} (k : Below n A B) (h0 : w0.heap.size ≤ n) (h1 : f < n) (h2 : h < n) (h3 : g2 < n) : NCap w0 f h v g2 o2 c2 ns B :=
  ⟨kept_sub q.k k h0, q.f.sub k h1, q.h.sub k h2, q.n.sub k h3⟩
set_option maxRecDepth 100000 in
theorem named_any (g o n c g2 o2 c2 : Nat) (ns : List B) (w : World) (hn : SR g2 o2 ns w) : Calls Tryz.prog 36 #[.slice (some ⟨g, o, none⟩) n c, .slice (some ⟨g2, o2, none⟩) ns.length c2] w fun e w' => ∃ f h : Nat, e = .returned (.func (.func 50) #[] #[.pointer (some ⟨f, 0, none⟩), .pointer (some ⟨h, 0, none⟩)]) ∧ NCap w f h (.slice (some ⟨g, o, none⟩) n c) g2 o2 c2 ns w' ∧ w.heap.size ≤ f ∧ w.heap.size ≤ h := by
  have b0 := Bv.new w (.slice (some ⟨g, o, none⟩) n c) 44
  have k0 := (Kept.refl w).alloc (.cells #[.slice (some ⟨g, o, none⟩) n c] 44)
  go_enter Tryz.func36, Tryz.ntmps36
  go_upto_region 1 with (fail)
  generalize hx : w.alloc (.cells #[.slice (some ⟨g, o, none⟩) n c] 44) = u at *
  have s1 : u.heap.size = w.heap.size + 1 := by rw [← hx]; simp
  clear hx
  have b1 := Bv.new u (.slice (some ⟨g2, o2, none⟩) ns.length c2) 78
  have k1 := (Kept.refl u).alloc (.cells #[.slice (some ⟨g2, o2, none⟩) ns.length c2] 78)
  rw [s1] at b1
  generalize u.alloc (.cells #[.slice (some ⟨g2, o2, none⟩) ns.length c2] 78) = y at *
  have P := Lib.hid (show NCap w w.heap.size (w.heap.size + 1) (.slice (some ⟨g, o, none⟩) n c) g2 o2 c2 ns y from ⟨k0.trans k1, b0.kept k1, b1, hn.kept (k0.trans k1)⟩)
  clear b0 b1 k0 k1 hn
  go_wp2
  go_ret
  exact ⟨_, _, rfl, P.out, by omega, by omega⟩
/-- yield in its box -/
def Yb (y l : Nat) (W : World) : Prop := Bv 58 y (.func (.yield l) #[] #[]) W
theorem Save.own {M M' : Nat → Obj → Prop} {A B C : World} (v : Save M A B) (q : Save M' B C) (h : ∀ k o, M' k o → A.heap.size ≤ k) : Save M A C :=
  ⟨q.os.trans v.os, q.output.trans v.output, Nat.le_trans v.size q.size, fun k o hk hm => q.block k o (v.block k o hk hm) (fun e => by have := h k o e; have := (Array.getElem?_eq_some_iff.1 hk).1; omega), q.tape.trans v.tape⟩
theorem fil_yes {α : Type} {l : List α} {k : Nat} {x : α} {q : α → Bool} (h : l[k]? = some x) (hq : q x = true) : (l.filter q)[((l.take k).filter q).length]? = some x ∧ ((l.take (k + 1)).filter q).length = ((l.take k).filter q).length + 1 := by
  obtain ⟨hk, rfl⟩ := List.getElem?_eq_some_iff.1 h
  have e := List.take_append_drop k l
  rw [List.drop_eq_getElem_cons hk] at e
  have e2 : l.filter q = (l.take k).filter q ++ (l[k] :: l.drop (k + 1)).filter q := by rw [← List.filter_append, e]
  refine ⟨?_, ?_⟩
  · rw [e2, List.getElem?_append_right (Nat.le_refl _), Nat.sub_self, List.filter_cons, if_pos hq]
    rfl
  · rw [List.take_add_one, h, List.filter_append, List.length_append]
    simp [hq]
theorem fil_no {α : Type} {l : List α} {k : Nat} {x : α} {q : α → Bool} (h : l[k]? = some x) (hq : q x = false) : ((l.take (k + 1)).filter q).length = ((l.take k).filter q).length := by
  rw [List.take_add_one, h, List.filter_append, List.length_append]
  simp [hq]
theorem one_way {M : Nat → Obj → Prop} {W1 W' : World} {e : Ending} {A B : Prop} (h : Save M W1 W' ∧ ((e = .returned (.bool true) ∧ A) ∨ (e = .returned (.bool false) ∧ B))) : ∃ q : Bool, e = .returned (.bool q) ∧ (Save M W1 W' ∧ (q = true → A) ∧ (q = false → B)) := by
  obtain ⟨hs, ⟨h1, h2⟩ | ⟨h1, h2⟩⟩ := h
  · exact ⟨true, h1, hs, fun _ => h2, (fun q => by cases q)⟩
  · exact ⟨false, h1, hs, (fun q => by cases q), fun _ => h2⟩
set_option maxRecDepth 100000 in
set_option maxHeartbeats 8000000 in
theorem named_itr (g o n c f h g2 o2 c2 : Nat) (ns : List B) (l : List Tk) (w0 : World) (hr : TkRd (.slice (some ⟨g, o, none⟩) n c) l w0) (hF : Fw 1000000 l) :
    Itr 32 w0.heap.size Tryz.prog 50 #[.pointer (some ⟨f, 0, none⟩), .pointer (some ⟨h, 0, none⟩)] (seqS ((prN ns l).map (pv g o c))) (fun k => k = (prN ns l).length) 0 (NCap w0 f h (.slice (some ⟨g, o, none⟩) n c) g2 o2 c2 ns) := by
  intro nn ll M J Jx W hcap hM hcM hJ hJx hY h0
  have HC := Lib.hid hcap; have HM := Lib.hid hM; have HCM := Lib.hid hcM; have HJ := Lib.hid hJ; have HJX := Lib.hid hJx; have HY := Lib.hid hY; have H0 := Lib.hid h0
  have hF1 : l.length ≤ 1000000 := hF.1
  have HR := Lib.hid hr; have HFW := Lib.hid hF
  clear hcap hM hcM hJ hJx hY h0 hr hF
  have hz0 := HC.out.k.size
  have Y0 : Yb W.heap.size ll (W.alloc (.cells #[.func (.yield ll) #[] #[]] 58)) := Bv.new W _ _
  have K0 := (Kept.refl W).alloc (.cells #[.func (.yield ll) #[] #[]] 58)
  have cf := (HC.out.f.kept K0).c
  refine callsIn_wide.2 ((callsIn_wide (n := 9)).1 ?_)
  refine callsIn_of_wp_marks Tryz.func50 rfl trivial ?_ rfl
  simp only [Tryz.ntmps50, List.size_toArray, List.length_cons, List.length_nil, Nat.reduceAdd, Nat.reduceSub, Array.replicate_succ, Array.replicate_zero, List.push_toArray, List.append_toArray, List.nil_append, List.cons_append]
  gi_upto_region 1 with (fail)
  have hw : (W.alloc (.cells #[.func (.yield ll) #[] #[]] 58)).heap.size = W.heap.size + 1 := by simp
  generalize W.alloc (.cells #[.func (.yield ll) #[] #[]] 58) = X0 at *
  have hx0 : X0.heap.size = W.heap.size + 1 := hw
  gi_wp2_with (refine ⟨trivial, ?_⟩; gi_at_call 51; refine (callsIn_wide.2 (parts_any g o n c _)).mono ?_; rintro e X ⟨f', rfl, Bf, k1, f1⟩)
  have hX := k1.size
  have KX := Lib.hid (K0.trans k1)
  have YX := Lib.hid (show Yb W.heap.size ll X from Y0.kept k1)
  have CX := Lib.hid (HC.out.sub (KX.out.below (Nat.le_refl _)) hz0 HC.out.f.lt HC.out.h.lt HC.out.n.lt)
  have DX := Lib.hid (show PCap w0 f' (.slice (some ⟨g, o, none⟩) n c) X from ⟨HC.out.k.trans KX.out, Bf⟩)
  have lt1 := Bf.lt
  clear Y0 K0 cf Bf k1
  have HFL := Lib.hid hF1
  refine range_itr (n := 9) (gf := 65) (lb := #[.pointer (some ⟨f', 0, none⟩)]) rfl (enters_of Tryz.func65 (by kernel_rfl) rfl) (by omega)
    (parts_itr w0.heap.size g o n c f' l w0 HR.out hF1) (fun s arr s' hs => by obtain ⟨_, _, rfl, _⟩ := hs; rfl)
    M (HM.out.mono (by omega)) DX.out
    (fun A B v q => by
      have n1 : ¬ (M f' (.cells #[.slice (some ⟨g, o, none⟩) n c] 44) ∨ X.heap.size ≤ f') := fun r => by
        rcases r with r | r
        · obtain ⟨-, r | ⟨_, _, r⟩⟩ := HM.out _ _ r
          · omega
          · cases r
        · omega
      refine ⟨⟨v.os.trans q.1.os, v.output.trans q.1.output, Nat.le_trans q.1.size v.size, fun k hk => ?_, v.tape.trans q.1.tape⟩, q.2.save v n1⟩
      obtain ⟨ob, hob⟩ := at_some (A := A) (k := k) (Nat.lt_of_lt_of_le hk q.1.size)
      rw [v.block k ob hob (fun r => by
        rcases r with r | r
        · have := (HM.out _ _ r).1; omega
        · omega), ← hob, q.1.block k hk])
    (fun k V => J (((prs l).take k).filter fun p => ns.contains (nm1 (cutP l p))).length V ∧ NCap w0 f h (.slice (some ⟨g, o, none⟩) n c) g2 o2 c2 ns V ∧ Yb W.heap.size ll V ∧ X.heap.size ≤ V.heap.size)
    (fun q k V => q = .ret ∧ ∃ s, Jx s V)
    ?hI ?hIx ⟨HJ.out 0 W X H0.out (Fwd.of_kept KX.out), CX.out, YX.out, Nat.le_refl _⟩ ?round ?done ?stop
  case hI =>
    rintro k A B ⟨hj, hcp, hy, hz⟩ kb
    exact ⟨HJ.out _ A B hj (kb.mono (by omega)), hcp.fwd kb (by omega) (by have := HC.out.f.lt; omega) (by have := HC.out.h.lt; omega) (by have := HC.out.n.lt; omega), hy.fwd kb (by omega), Nat.le_trans hz kb.size⟩
  case hIx =>
    rintro q k A B ⟨rfl, s, h2⟩ kb
    exact ⟨rfl, s, HJX.out s A B h2 (kb.mono (by omega))⟩
  case done =>
    rintro k V hend ⟨hj, hcp, hy, hz⟩ hv hK
    subst hend
    rw [List.take_length] at hj
    have H := Lib.hid (show J (prN ns l).length V from hj)
    have HV := Lib.hid hv
    clear hj hcp hy hv
    gi_wp2
    refine ⟨by simp, .inl ⟨_, _, rfl, run_takeDeferred hK, ?_⟩⟩
    have hz3 := HV.out.size
    exact ⟨_, results_none rfl _ _ _, ⟨_, rfl⟩, (((Save.of_kept M KX.out).trans HV.out).own (Save.put (M := fun k _ => k = X.heap.size) _ (fun _ _ => rfl)) (fun k _ h => by omega)), .inl ⟨_, rfl, HJ.out _ V _ H.out (Fwd.put hK (by omega) (fun _ _ q => by cases q))⟩⟩
  case stop =>
    rintro q k V ⟨rfl, s, hj⟩ hv hK
    have H := Lib.hid hj
    have HV := Lib.hid hv
    clear hj hv
    gi_wp2
    refine ⟨by simp, .inl ⟨_, _, rfl, run_takeDeferred hK, ?_⟩⟩
    have hz3 := HV.out.size
    exact ⟨_, results_none rfl _ _ _, ⟨_, rfl⟩, (((Save.of_kept M KX.out).trans HV.out).own (Save.put (M := fun k _ => k = X.heap.size) _ (fun _ _ => rfl)) (fun k _ h => by omega)), .inr ⟨s, HJX.out s V _ H.out (Fwd.put hK (by omega) (fun _ _ q => by cases q))⟩⟩
  case round =>
    rintro l2 k arr k' V ⟨pvv, hpv, rfl, rfl⟩ ⟨hj, hcp, hy, hz⟩ hsz K hK
    rw [List.getElem?_map, Option.map_eq_some_iff] at hpv
    obtain ⟨p, hp, rfl⟩ := hpv
    have hpb := prs_bd (List.mem_of_getElem? hp)
    have hne : cutP l p ≠ [] := fun e => by have := cutP_len hpb; rw [e] at this; simp at this; omega
    obtain ⟨t, r, htr⟩ : ∃ t r, cutP l p = t :: r := by
      cases hc : cutP l p with
      | nil => exact absurd hc hne
      | cons t r => exact ⟨t, r, rfl⟩
    have HPR := Lib.hid (show TkRd (.slice (some ⟨g, o + p.1 * 4, none⟩) (p.2 - p.1) (c - p.1)) (t :: r) w0 by rw [← htr]; exact rd_cut HR.out p hpb)
    have HPF := Lib.hid (show Fw 1000000 (t :: r) by rw [← htr]; exact Fw.sub HFW.out (cutP_sub l p))
    have HCP := Lib.hid hcp; have HK := Lib.hid hK; have HP := Lib.hid hp; have HYB := Lib.hid hy; have HJ1 := Lib.hid hj; have HTR := Lib.hid htr
    clear hcp hK hp hy hj htr hne
    unfold pv
    simp only [List.zip_toArray, List.zip_cons_cons, List.zip_nil_right, List.foldl_toArray, List.foldl_cons, List.foldl_nil, List.setIfInBounds_toArray, List.set_cons_zero, List.set_cons_succ]
    have z1 := HC.out.f.lt; have z2 := HC.out.h.lt; have z3 := HC.out.n.lt
    gi_wp2
    refine HK.out _ _ (Kept.refl V) (fun W2 v2 d2 => ?_)
    have kV : Below X.heap.size V W2 := v2.below (by omega) (fun k _ _ h => by omega)
    have J2 := Lib.hid (HJ.out _ V W2 HJ1.out (d2.mono (by omega)))
    have CP2 := Lib.hid (HCP.out.sub kV (by omega) (by omega) (by omega) (by omega))
    have Y2 := Lib.hid (show Yb W.heap.size ll W2 from HYB.out.sub kV (by omega))
    have hz2 : X.heap.size ≤ W2.heap.size := Nat.le_trans hz kV.size
    have PR2 := Lib.hid (HPR.out.kept CP2.out.k)
    have cy := Y2.out.c
    have cn := CP2.out.h.c
    have hmix : Tryz.prog.follows .mixedOrders = true := by kernel_rfl
    clear HJ1 HCP HYB HK kV d2
    cases hcb : ns.contains (nm1 (t :: r)) with
    | false =>
      gi_upto_region 3 with (fail)
      refine quiet_round hmix (by kernel_rfl) (by kernel_rfl) ?_
      repeat (gi_big_quiet_step (fail))
      refine BigFrame.wpQuietIn_want (fun _ _ _ _ => trivial) rfl (fun K hK => ?_)
      gi_big_quiet_op
      refine ⟨sV (nm1 (t :: r)), fun m => callsIn_wide.2 ((lname_any _ t r _ (PR2.out.kept ((Kept.refl W2).drewN m)) HPF.out).mono (by rintro e w' ⟨rfl, rfl⟩; exact ⟨rfl, m, rfl⟩)), ?_⟩
      refine hK _ ?_
      clear hK K
      refine BigFrame.wpQuietIn_want (fun _ _ _ _ => trivial) rfl (fun K hK => ?_)
      gi_big_quiet_op
      refine ⟨.bool false, fun m => callsIn_wide.2 ((contains_any _ ns _ _ (show SRd _ ns _ from ⟨_, _, _, rfl, CP2.out.n.kept ((Kept.refl W2).drewN m)⟩)).mono (by rintro e w' ⟨rfl, rfl⟩; exact ⟨by rw [hcb], m, rfl⟩)), ?_⟩
      refine hK _ ?_
      clear hK K
      gi_big_quiet_step (fail)
      gi_big_quiet_step (fail)
      gi_big_quiet_step (fail)
      refine BigFrame.wpQuietIn_skip (fun _ _ _ _ => trivial) rfl ?_
      simp only [Act.put, List.setIfInBounds_toArray, List.set_cons_zero, List.set_cons_succ]
      repeat (gi_big_quiet_step (fail))
      refine wpQuietIn_nil ?_
      rintro _ ⟨nq, rfl⟩
      have kq := (Kept.refl W2).drewN nq
      have hlen := fil_no (q := fun p => ns.contains (nm1 (cutP l p))) HP.out (by rw [HTR.out]; exact hcb)
      gi_wp2
      exact ⟨Save.of_kept _ kq, by rw [hlen]; exact HJ.out _ W2 _ J2.out (Fwd.of_kept kq), CP2.out.sub (kq.below (Nat.le_refl _)) (by omega) (by omega) (by omega) (by omega), Y2.out.kept kq, Nat.le_trans hz2 kq.size⟩
    | true =>
      obtain ⟨hfy, hlen⟩ := fil_yes (q := fun p => ns.contains (nm1 (cutP l p))) HP.out (by rw [HTR.out]; exact hcb)
      have hyv : ((prN ns l).map (pv g o c))[(((prs l).take k).filter fun p => ns.contains (nm1 (cutP l p))).length]? = some (.slice (some ⟨g, o + p.1 * 4, none⟩) (p.2 - p.1) (c - p.1)) := by
        rw [List.getElem?_map, show (prN ns l) = (prs l).filter (fun p => ns.contains (nm1 (cutP l p))) from rfl, hfy]; rfl
      have HYY := Lib.hid (fun x hx => yield_any (m := 7) (HY.out _ #[.slice (some ⟨g, o + p.1 * 4, none⟩) (p.2 - p.1) (c - p.1)] _ x ⟨_, hyv, rfl, rfl⟩ hx))
      gi_upto_region 3 with (fail)
      have K2 := (Kept.refl W2).drew
      have PRD := Lib.hid (PR2.out.kept K2)
      have ND := Lib.hid (show SRd (.slice (some ⟨g2, o2, none⟩) ns.length c2) ns W2.drew from ⟨_, _, _, rfl, CP2.out.n.kept K2⟩)
      have JD := Lib.hid (HJ.out _ W2 _ J2.out (Fwd.of_kept K2))
      have cy := (show Yb W.heap.size ll W2.drew from Y2.out.kept K2).c
      have cn := (CP2.out.h.kept K2).c
      obtain ⟨fn, tmps, assign, body, hyy, hRr⟩ := HYY.out _ JD.out
      have HRR := Lib.hid hRr
      clear hRr HYY hyv
      gi_region_with_o (first
        | (refine ⟨trivial, ?_⟩; gi_at_call 34; refine (CallsIn.inRound l2 (callsIn_wide.2 (lname_any _ t r _ PRD.out HPF.out))).mono ?_; rintro e w1 ⟨rfl, rfl⟩)
        | (refine ⟨trivial, ?_⟩; gi_at_call 52; refine (CallsIn.inRound l2 (callsIn_wide.2 (contains_any _ ns _ _ ND.out))).mono ?_; rintro e w1 ⟨rfl, rfl⟩; rw [hcb])
        | (refine HRR.out.mono ?_; rintro e W3 hq; obtain ⟨q, rfl, HQ⟩ := one_way hq; clear hq))
      all_goals
        have HV := HQ.1
        have hz3 : X.heap.size ≤ W3.heap.size := Nat.le_trans hz2 HV.size
        cases q with
        | true =>
          have CP3 := Lib.hid (HCM.out _ _ HV (CP2.out.sub (K2.below (Nat.le_refl _)) (by omega) (by omega) (by omega) (by omega)))
          have Y3 := Lib.hid (show Yb W.heap.size ll W3 from (Y2.out.kept K2).save HV (fun r => by
            obtain ⟨-, r | ⟨_, _, r⟩⟩ := HM.out _ _ r
            · omega
            · cases r))
          have J3 := Lib.hid (HQ.2.1 rfl)
          have V3 := Lib.hid ((Save.of_kept M K2).trans HV)
          clear HQ HV cy cn hyy HRR
          gi_wp2
          exact ⟨V3.out, by rw [hlen]; exact J3.out, CP3.out, Y3.out, hz3⟩
        | false =>
          have J3 := Lib.hid (HQ.2.2 rfl)
          have V3 := Lib.hid ((Save.of_kept M K2).trans HV)
          clear HQ HV cy cn hyy HRR
          gi_wp2
          exact ⟨V3.out, rfl, _, J3.out⟩
end Go.Proofs.YtflhmgnhjnaiiaaGreatDoor.Fd
