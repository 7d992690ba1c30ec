/- Package feed: an element's parts, told by a function to range over. -/
import Derived.Test.YtflhmgnhjnaiiaaGreatDoorFdG
import Derived.Test.YtflhmgnhjnaiiaaGreatDoorFdB
set_option linter.unusedSimpArgs false
set_option linter.unusedVariables false
namespace Go.Proofs.YtflhmgnhjnaiiaaGreatDoor.Fd
open Go.ChangeShapes Go.WideShapes Go.ChangeAt Go.RowKit Go.Shelf
open En Xm
attribute [local go_sem] Oper.semAt_some
theorem cell_at {x : World} {n j : Nat} {cs : Array Value} {t : TypeId} {v : Value} (h : x.heap[n]? = some (.cells cs t)) (hv : cs[j]? = some v) : x.cell? ⟨n, j, none⟩ = some v := by
  simp [World.cell?, h, hv]
/-- a value in a block of its own -/
def Bv (t : TypeId) (b : Nat) (v : Value) (W : World) : Prop := W.heap[b]? = some (.cells #[v] t)
theorem Bv.lt {t : TypeId} {b : Nat} {v : Value} {W : World} (h : Bv t b v W) : b < W.heap.size := (Array.getElem?_eq_some_iff.1 h).1
theorem Bv.c {t : TypeId} {b : Nat} {v : Value} {W : World} (h : Bv t b v W) : W.cell? ⟨b, 0, none⟩ = some v := cell_at h rfl
theorem Bv.kept {t : TypeId} {b : Nat} {v : Value} {W W' : World} (h : Bv t b v W) (k : Kept W W') : Bv t b v W' := (k.block _ h.lt).trans h
theorem Bv.new (W : World) (v : Value) (t : TypeId) : Bv t W.heap.size v (W.alloc (.cells #[v] t)) := World.alloc_heap_new W _
theorem Bv.save {t : TypeId} {b : Nat} {v : Value} {A B : World} {M : Nat → Obj → Prop} (h : Bv t b v A) (k : Save M A B) (hm : ¬ M b (.cells #[v] t)) : Bv t b v B := k.at h hm
theorem Bv.sub {t : TypeId} {b n : Nat} {v : Value} {A B : World} (h : Bv t b v A) (k : Below n A B) (hn : b < n) : Bv t b v B := (k.block _ hn).trans h
theorem Bv.fwd {E t : TypeId} {b n : Nat} {v : Value} {A B : World} (h : Bv t b v A) (k : Fwd E n A B) (hn : b < n) : Bv t b v B := k.block b _ h (fun q => by omega)
theorem kept_fwd {E : TypeId} {w0 A B : World} {n : Nat} (h : Kept w0 A) (k : Fwd E n A B) (hn : w0.heap.size ≤ n) : Kept w0 B :=
  ⟨k.os.trans h.os, k.output.trans h.output, Nat.le_trans h.size k.size, fun i hi => by
    obtain ⟨ob, hob⟩ := at_some (A := A) (k := i) (Nat.lt_of_lt_of_le hi h.size)
    rw [k.block i ob hob (fun q => by omega), ← hob, h.block i hi], k.tape.trans h.tape⟩
/-- one behind the other, some values are told -/
def seqS (vs : List Value) (k : Nat) (arr : Array Value) (k' : Nat) : Prop := ∃ v, vs[k]? = some v ∧ arr = #[v] ∧ k' = k + 1
def pv (g o c : Nat) (p : Nat × Nat) : Value := .slice (some ⟨g, o + p.1 * 4, none⟩) (p.2 - p.1) (c - p.1)
/-- what the parts' function has captured -/
def PCap (w0 : World) (f : Nat) (v : Value) (W : World) : Prop := Kept w0 W ∧ Bv 44 f v W
theorem kept_sub {w0 A B : World} {n : Nat} (h : Kept w0 A) (k : Below n A B) (hn : w0.heap.size ≤ n) : Kept w0 B :=
  ⟨k.os.trans h.os, k.output.trans h.output, Nat.le_trans h.size k.size, fun i hi => (k.block i (by omega)).trans (h.block i hi), k.tape.trans h.tape⟩
set_option maxRecDepth 100000 in
theorem parts_any (g o n c : Nat) (w : World) : Calls Tryz.prog 51 #[.slice (some ⟨g, o, none⟩) n c] w fun e w' => ∃ f : Nat, e = .returned (.func (.func 65) #[] #[.pointer (some ⟨f, 0, none⟩)]) ∧ Bv 44 f (.slice (some ⟨g, o, none⟩) n c) w' ∧ Kept w w' ∧ w.heap.size ≤ f := by
  have b0 := Bv.new w (.slice (some ⟨g, o, none⟩) n c) 44
  have k0 := (Kept.refl w).alloc (.cells #[.slice (some ⟨g, o, none⟩) n c] 44)
  go_enter Tryz.func51, Tryz.ntmps51
  go_upto_region 1 with (fail)
  generalize w.alloc (.cells #[.slice (some ⟨g, o, none⟩) n c] 44) = u at *
  have P := Lib.hid (And.intro b0 k0)
  clear b0 k0
  go_wp2
  go_ret
  exact ⟨_, rfl, P.out.1, P.out.2, Nat.le_refl _⟩
theorem prF_drop {l : List Tk} {i : Nat} {t : Tk} (h : l[i]? = some t) (d : Int) (b : Nat) : prF i d b (l.drop i) = if t.1 = 0 then prF (i + 1) (d + 1) (if d = 1 then i else b) (l.drop (i + 1)) else if t.1 = 1 then (if d - 1 = 1 then (b, i + 1) :: prF (i + 1) (d - 1) b (l.drop (i + 1)) else prF (i + 1) (d - 1) b (l.drop (i + 1))) else prF (i + 1) d b (l.drop (i + 1)) := by
  obtain ⟨hi, rfl⟩ := List.getElem?_eq_some_iff.1 h
  rw [List.drop_eq_getElem_cons hi, prF]
theorem drop_hit {α : Type} {l : List α} {k : Nat} {x : α} {r : List α} (h : l.drop k = x :: r) : l[k]? = some x ∧ l.drop (k + 1) = r := by
  have h1 : (l.drop k)[0]? = some x := by rw [h]; rfl
  rw [List.getElem?_drop, Nat.add_zero] at h1
  refine ⟨h1, ?_⟩
  rw [← List.tail_drop, h]; rfl
set_option maxRecDepth 100000 in
set_option maxHeartbeats 4000000 in
theorem parts_itr (B g o n c f : Nat) (l : List Tk) (w0 : World) (h : TkRd (.slice (some ⟨g, o, none⟩) n c) l w0) (hl : l.length ≤ 1000000) :
    Itr 32 B Tryz.prog 65 #[.pointer (some ⟨f, 0, none⟩)] (seqS ((prs l).map (pv g o c))) (fun k => k = (prs l).length) 0 (PCap w0 f (.slice (some ⟨g, o, none⟩) n c)) := by
  intro nn ll M J Jx W hcap hM hcM hJ hJx hY h0
  have HC := Lib.hid hcap; have HM := Lib.hid hM; have HCM := Lib.hid hcM; have HJ := Lib.hid hJ; have HJX := Lib.hid hJx; have HY := Lib.hid hY; have H0 := Lib.hid h0
  have HR := Lib.hid h
  obtain ⟨_, _, hnl⟩ := h.slice
  have hn : n = l.length := by cases hnl; rfl
  have hnc : n ≤ c ∨ l = [] := by
    by_cases q : l = []
    · exact Or.inr q
    · obtain ⟨_, _, hv, h2⟩ := h
      obtain ⟨_, _, _, hc, _⟩ := h2 q
      cases hv
      exact Or.inl hc
  have HNC := Lib.hid hnc
  clear hcap hM hcM hJ hJx hY h0 h hnl hnc
  have cf := HC.out.2.c
  refine callsIn_wide.2 ((callsIn_wide (n := 5)).1 ?_)
  refine callsIn_of_wp Tryz.func65 rfl trivial ?_ rfl
  simp only [Tryz.ntmps65, List.size_toArray, List.length_cons, List.length_nil, Nat.reduceAdd, Nat.reduceSub, Array.replicate_succ, Array.replicate_zero, List.push_toArray, List.append_toArray, List.nil_append, List.cons_append]
  gi_wp2
  have HP := Lib.hid (show prF 0 0 0 (l.drop 0) = (prs l).drop 0 from rfl)
  gi_loopw [3, 4, 5, 6, 9] (fun vb vd _ _ vi wr => ∃ (i b k : Nat) (d : Int), vb = .int .i64 b ∧ vd = .int .i64 d ∧ vi = .int .i64 i ∧ i ≤ l.length ∧ b ≤ i ∧ -i ≤ d ∧ d ≤ i ∧ k ≤ (prs l).length ∧ Hid (prF i d b (l.drop i) = (prs l).drop k) ∧ J k wr ∧ Save M W wr) (fun _ _ _ _ vi _ => l.length - (intOf vi).toNat)
  case atStart => exact ⟨0, 0, 0, 0, rfl, rfl, rfl, Nat.zero_le _, Nat.le_refl _, by omega, by omega, Nat.zero_le _, HP, H0.out, Save.refl _ _⟩
  case round =>
    clear cf HP
    obtain ⟨i, b, k, d, rfl, rfl, rfl, hi, hb, hd1, hd2, hkl, hP, hj, hv⟩ := hrel
    have capr := HCM.out _ _ hv HC.out
    have cf := capr.2.c
    by_cases hlt : i < l.length
    · have hltI : (i : Int) < (n : Int) := by omega
      have hcn : n ≤ c := by rcases HNC.out with q | q; (· exact q); rw [q] at hlt; simp at hlt
      obtain ⟨u, hu⟩ : ∃ u, l[i]? = some u := ⟨_, List.getElem?_eq_getElem hlt⟩
      obtain ⟨-, g', o', x, hpa, -, t0, t1, t2, t3, hat⟩ := (HR.out.kept capr.1).at hu
      cases hpa
      obtain ⟨ax, cx, rfl⟩ := hat.slice
      have HU := Lib.hid (prF_drop hu d b)
      obtain ⟨k1, n1, s1, al⟩ := u
      simp only at t0 t1 t2 t3 HU
      generalize al.length = na at *
      have kx := (Kept.refl wr).alloc (.cells #[iV k1, sV n1, sV s1, .slice ax na cx] 43)
      have e0 := (Kept.refl (wr.alloc (.cells #[iV k1, sV n1, sV s1, .slice ax na cx] 43))).new 0 (v := iV k1) rfl
      have VX := Lib.hid (hv.trans (Save.of_kept M kx))
      have JX := Lib.hid (HJ.out k wr _ hj (Fwd.of_kept kx))
      have cfx := (capr.2.kept kx).c
      clear hat hu kx capr hj hv
      by_cases h0 : k1 = 0
      · have hk0 : (k1 == 0) = true := by simp [h0]
        by_cases hd : d = 1
        · have N2 := Lib.hid (show prF (i + 1) (d + 1) i (l.drop (i + 1)) = (prs l).drop k by rw [← hP.out, HU.out, if_pos h0, if_pos hd])
          clear HU hP h0
          gi_wp2
          exact ⟨⟨i + 1, i, k, d + 1, rfl, by go_num, by go_num, hlt, by omega, by omega, by omega, hkl, N2, JX.out, VX.out⟩, by simp only [intOf]; omega⟩
        · have N2 := Lib.hid (show prF (i + 1) (d + 1) b (l.drop (i + 1)) = (prs l).drop k by rw [← hP.out, HU.out, if_pos h0, if_neg hd])
          clear HU hP h0
          gi_wp2
          exact ⟨⟨i + 1, b, k, d + 1, rfl, by go_num, by go_num, hlt, by omega, by omega, by omega, hkl, N2, JX.out, VX.out⟩, by simp only [intOf]; omega⟩
      · have hk0 : (k1 == 0) = false := by simp [h0]
        by_cases h1 : k1 = 1
        · have hk1 : (k1 == 1) = true := by simp [h1]
          by_cases hd : d - 1 = 1
          · have hdb : (d - 1 == 1) = true := by simp [hd]
            have hcut := drop_hit (show (prs l).drop k = (b, i + 1) :: prF (i + 1) (d - 1) b (l.drop (i + 1)) by rw [← hP.out, HU.out, if_neg h0, if_pos h1, if_pos hd])
            have hk' : k + 1 ≤ (prs l).length := (List.getElem?_eq_some_iff.1 hcut.1).1
            have N2 := Lib.hid (show prF (i + 1) (d - 1) b (l.drop (i + 1)) = (prs l).drop (k + 1) from hcut.2.symm)
            have hyv : ((prs l).map (pv g o c))[k]? = some (.slice (some ⟨g, o + b * 4, none⟩) (i + 1 - b) (c - b)) := by rw [List.getElem?_map, hcut.1]; rfl
            obtain ⟨fn, tmps, assign, body, hy, hRr⟩ := yield_any (m := 4) (HY.out k #[.slice (some ⟨g, o + b * 4, none⟩) (i + 1 - b) (c - b)] (k + 1) _ ⟨_, hyv, rfl, rfl⟩ JX.out)
            have hsl : ∀ W : World, (Instr.slice 44 (.slice (some ⟨g, o, none⟩) n c) (some (.int .i64 b)) (some (.int .i64 ((i : Int) + 1))) none).run Tryz.prog W = .ok (.slice (some ⟨g, o + b * 4, none⟩) (i + 1 - b) (c - b)) W := fun W => by
              rw [run_slice_lh W 44 _ _ _ (by kernel_rfl) .i64 .i64 _ _ (by omega) (by omega) (by omega), show Tryz.prog.elem 44 = 43 by kernel_rfl]
              have q : ¬ c = b := by omega
              have q2 : ((i : Int) + 1).toNat = i + 1 := by omega
              simp [Result.andThen, sliced, q, q2, Addr.add]
            clear HU hP h0 h1 hcut hyv
            gi_wp2
            refine hRr.mono ?_
            rintro e W3 ⟨v3, ⟨rfl, j3⟩ | ⟨rfl, j3⟩⟩
            · have V3 := Lib.hid (VX.out.trans v3)
              clear hRr hy v3 VX JX
              gi_wp2
              exact ⟨⟨i + 1, b, k + 1, d - 1, rfl, by rw [hd], by go_num, hlt, by omega, by omega, by omega, hk', N2, j3, V3.out⟩, by simp only [intOf]; omega⟩
            · have V3 := Lib.hid (VX.out.trans v3)
              clear hRr hy v3 VX JX
              gi_wp2
              exact bodyPost_ret (results_none rfl _ _ _) rfl ⟨⟨_, rfl⟩, V3.out, .inr ⟨_, j3⟩⟩
          · have N2 := Lib.hid (show prF (i + 1) (d - 1) b (l.drop (i + 1)) = (prs l).drop k by rw [← hP.out, HU.out, if_neg h0, if_pos h1, if_neg hd])
            have hdb : (d - 1 == 1) = false := by simp [hd]
            clear HU hP h0 h1
            gi_wp2
            refine ⟨fun _ h => (by cases h), ?_⟩
            gi_wp2
            exact ⟨⟨i + 1, b, k, d - 1, rfl, rfl, by go_num, hlt, by omega, by omega, by omega, hkl, N2, JX.out, VX.out⟩, by simp only [intOf]; omega⟩
        · have hk1 : (k1 == 1) = false := by simp [h1]
          have N2 := Lib.hid (show prF (i + 1) d b (l.drop (i + 1)) = (prs l).drop k by rw [← hP.out, HU.out, if_neg h0, if_neg h1])
          clear HU hP h0 h1
          gi_wp2
          exact ⟨⟨i + 1, b, k, d, rfl, rfl, by go_num, hlt, by omega, by omega, by omega, hkl, N2, JX.out, VX.out⟩, by simp only [intOf]; omega⟩
    · have hltI : ¬ (i : Int) < (n : Int) := by omega
      have HE := Lib.hid (show k = (prs l).length by
        have := hP.out
        rw [List.drop_of_length_le (by omega)] at this
        have := congrArg List.length this
        rw [List.length_drop] at this
        simp [prF] at this
        omega)
      clear hP
      gi_wp2
      go_end0
      exact ⟨⟨_, rfl⟩, hv, .inl (HE.out ▸ hj)⟩
end Go.Proofs.YtflhmgnhjnaiiaaGreatDoor.Fd
