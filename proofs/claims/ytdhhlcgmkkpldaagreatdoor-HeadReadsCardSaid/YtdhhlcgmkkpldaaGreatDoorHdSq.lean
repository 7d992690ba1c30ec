/- The texts between pieces of a kind, told by strings.SplitSeq to a range over a function. -/
import Derived.Test.YtdhhlcgmkkpldaaGreatDoorHdB
import Derived.Test.YtdhhlcgmkkpldaaGreatDoorShelf
set_option linter.unusedSimpArgs false
set_option linter.unusedVariables false
namespace Go.Proofs.YtdhhlcgmkkpldaaGreatDoor.Hd
open Go.ChangeShapes Go.WideShapes Go.ChangeAt Go.RowKit Go.Shelf
attribute [local go_sem] Oper.semAt_some
/-- one behind the other, some texts are told -/
def seqS (ts : List B) (k : Nat) (arr : Array Value) (k' : Nat) : Prop := ∃ t, ts[k]? = some t ∧ arr = #[sV t] ∧ k' = k + 1
theorem index_any (s t : B) (w : World) (hE : Env w) (hs : s.length ≤ 4000000000) : Calls Tryz.prog 39 #[sV s, sV t] w fun e w' => e = .returned (iV (Lib.index s t)) ∧ w' = w := by
  obtain ⟨m, hm⟩ := hE
  have hsz : (ByteArray.mk s.toArray).size = s.length := List.size_toArray
  exact Tryz.strings_Index ⟨s.toArray⟩ ⟨t.toArray⟩ m w (by omega) hm
/-- the library's variable: no round turns it -/
def RdE (k : Nat) : Prop := k = 0
/-- what the function has captured: the piece, the text, how much of the piece is told -/
structure SCap (a b d : Nat) (c : B) (l : B) (W : World) : Prop where
  a : Bv 9 a (sV c) W
  b : Bv 9 b (sV l) W
  d : Bv 3 d (iV 0) W
  e : Env W
theorem SCap.kept {a b d : Nat} {c l : B} {W W' : World} (h : SCap a b d c l W) (k : Kept W W') : SCap a b d c l W' := ⟨h.a.kept k, h.b.kept k, h.d.kept k, h.e.kept k⟩
def SqT (a b d : Nat) (k : Nat) : Prop := k = a ∨ k = b ∨ k = d
/-- the function to range over: where its variables lie -/
def SqP (c l : B) (w : World) (e : Ending) (w' : World) : Prop :=
  ∃ a b d : Nat, e = .returned (.func (.func 57) #[] #[.pointer (some ⟨a, 0, none⟩), .pointer (some ⟨b, 0, none⟩), .pointer (some ⟨d, 0, none⟩)]) ∧ SCap a b d c l w' ∧ Kept w w' ∧ (w.heap.size ≤ a ∧ w.heap.size ≤ b ∧ w.heap.size ≤ d) ∧ (a < w'.heap.size ∧ b < w'.heap.size ∧ d < w'.heap.size) ∧ b ≠ a ∧ b ≠ d
theorem split0_any (c l : B) (w : World) (hE : Env w) (hc : c ≠ []) (hcl : c.length ≤ 100) : Calls Tryz.prog 38 #[.string ⟨l.toArray⟩, .string ⟨c.toArray⟩, .int .i64 0] w (SqP c l w) := by
  have k0 := (Kept.refl w).alloc (.cells #[sV l] 9)
  have b0 := Bv.new w (sV l) 9
  have hcs : (ByteArray.mk c.toArray).size = c.length := List.size_toArray
  have hpos := List.length_pos_iff.2 hc
  have hc0 : ((c.length : Int) == 0) = false := by rw [beq_eq_false_iff_ne]; omega
  have HE := Lib.hid hE
  clear hE hc
  go_enter Tryz.func38, Tryz.ntmps38
  go_upto_region 1 with (fail)
  have s0 : (w.alloc (.cells #[sV l] 9)).heap.size = w.heap.size + 1 := by simp
  generalize hx : w.alloc (.cells #[sV l] 9) = x at *
  have k1 := k0.alloc (.cells #[sV c] 9)
  have b1 := Bv.new x (sV c) 9
  have b01 := b0.kept ((Kept.refl x).alloc (.cells #[sV c] 9))
  have s1 : (x.alloc (.cells #[sV c] 9)).heap.size = x.heap.size + 1 := by simp
  generalize hy : x.alloc (.cells #[sV c] 9) = y at *
  have k2 := k1.alloc (.cells #[iV 0] 3)
  have b2 := Bv.new y (iV 0) 3
  have b02 := b01.kept ((Kept.refl y).alloc (.cells #[iV 0] 3))
  have b12 := b1.kept ((Kept.refl y).alloc (.cells #[iV 0] 3))
  have P := Lib.hid (show SCap (w.heap.size + 1) w.heap.size (w.heap.size + 2) c l (y.alloc (.cells #[iV 0] 3)) ∧ Kept w (y.alloc (.cells #[iV 0] 3)) from ⟨⟨by rw [← s0]; exact b12, b02, by rw [show w.heap.size + 2 = y.heap.size by omega]; exact b2, HE.out.kept k2⟩, k2⟩)
  have z1 : w.heap.size + 2 < (y.alloc (.cells #[iV 0] 3)).heap.size := by simp; omega
  have c1 := P.out.1.a.c
  generalize y.alloc (.cells #[iV 0] 3) = z at *
  clear k0 b0 k1 b1 b01 k2 b2 b02 b12
  go_wp2
  go_ret
  exact ⟨w.heap.size + 1, w.heap.size, w.heap.size + 2, rfl, P.out.1, P.out.2, by omega, by omega, by omega, by omega⟩
theorem splitSeq_any (c l : B) (w : World) (hE : Env w) (hc : c ≠ []) (hcl : c.length ≤ 100) : Calls Tryz.prog 24 #[.string ⟨l.toArray⟩, .string ⟨c.toArray⟩] w (SqP c l w) := by
  have HC := Lib.hid (split0_any c l w hE hc hcl)
  clear hE hc
  go_enter Tryz.func24, Tryz.ntmps24
  go_wp2_with fail
  refine HC.out.mono ?_
  rintro e w1 ⟨a, b, d, rfl, h⟩
  have H := Lib.hid h
  clear h
  go_wp2
  go_ret
  exact ⟨a, b, d, rfl, H.out⟩
def lenAt (b : Nat) (W : World) : Nat := match W.cell? ⟨b, 0, none⟩ with | some (Value.string s) => s.size | _ => 0
theorem lenAt_of {b : Nat} {l : B} {W : World} (h : Bv 9 b (sV l) W) : lenAt b W = l.length := by
  unfold lenAt
  rw [h.c]
  exact List.size_toArray
theorem spl_cases (c r : B) (hc : 1 ≤ c.length) : (Lib.index r c = -1 ∧ spl c r = [r]) ∨ ∃ i : Nat, Lib.index r c = i ∧ i + c.length ≤ r.length ∧ spl c r = r.take i :: spl c (r.drop (i + c.length)) := by
  have hge := Lib.index_ge r c
  by_cases h : Lib.index r c = -1
  · exact Or.inl ⟨h, spl_none h⟩
  · have hr := Lib.index_room r c (by omega)
    refine Or.inr ⟨(Lib.index r c).toNat, by omega, by omega, spl_hit hc (by omega)⟩
set_option maxRecDepth 100000 in
set_option maxHeartbeats 4000000 in
theorem split_itr (c l : B) (hc : c ≠ []) (hcl : c.length ≤ 100) (hl : l.length ≤ 1000000000) (a b d : Nat) (hba : b ≠ a) (hbd : b ≠ d) :
    Itr Tryz.prog 57 #[.pointer (some ⟨a, 0, none⟩), .pointer (some ⟨b, 0, none⟩), .pointer (some ⟨d, 0, none⟩)] (seqS (spl c l)) (fun k => k = (spl c l).length) 0 (SqT a b d) RdE (SCap a b d c l) := by
  intro nn ll M J Jx W hcap hM hJ hJx hY h0
  have HC := Lib.hid hcap; have HM := Lib.hid hM; have HJ := Lib.hid hJ; have HJX := Lib.hid hJx; have HY := Lib.hid hY; have H0 := Lib.hid h0
  have hpos := List.length_pos_iff.2 hc
  have hcs : (ByteArray.mk c.toArray).size = c.length := List.size_toArray
  clear hcap hM hJ hJx hY h0 hc
  have ca := HC.out.a.c
  refine callsIn_wide.2 ((callsIn_wide (n := 5)).1 ?_)
  refine callsIn_of_wp Tryz.func57 rfl trivial ?_ rfl
  simp only [Tryz.ntmps57, List.size_toArray, List.length_cons, List.length_nil, Nat.reduceAdd, Nat.reduceSub, Array.replicate_succ, Array.replicate_zero, List.push_toArray, List.append_toArray, List.nil_append, List.cons_append]
  have hc0 : ((c.length : Int) == 0) = false := by rw [beq_eq_false_iff_ne]; omega
  gi_wp2
  clear hc0
  gi_loopw [7] (fun _ wr => ∃ (k : Nat) (r : B), Hid (spl c r = (spl c l).drop k) ∧ r.length ≤ l.length ∧ Hid (SCap a b d c r wr) ∧ Hid (J k wr) ∧ Hid (Save (fun k o => M k o ∨ SqT a b d k) W wr)) (fun _ wr => lenAt b wr)
  case atStart => exact ⟨0, l, Lib.hid rfl, Nat.le_refl _, HC, H0, Lib.hid (Save.refl _ _)⟩
  case round =>
    clear ca
    obtain ⟨k, r, hS, hrl, hC, hj, hv⟩ := hrel
    have ca := hC.out.a.c
    have cb := hC.out.b.c
    have cd := hC.out.d.c
    have fb := hC.out.b.frz
    have hsz : (ByteArray.mk r.toArray).size = r.length := List.size_toArray
    have hM0 := lenAt_of hC.out.b
    have HMe := Lib.hid hM0
    clear hM0
    have HIX := Lib.hid (index_any r c wr hC.out.e (by omega))
    rcases spl_cases c r hpos with ⟨hno, hsp⟩ | ⟨i, hi, hil, hsp⟩
    · have h1 : (spl c l)[k]? = some r := by
        have h1 : ((spl c l).drop k)[0]? = some r := by rw [← hS.out, hsp]; rfl
        rwa [List.getElem?_drop, Nat.add_zero] at h1
      have h2 : k + 1 = (spl c l).length := by
        have := congrArg List.length hS.out
        rw [hsp] at this
        simp at this; omega
      rw [hno] at HIX
      have HE := Lib.hid h2
      obtain ⟨fn, tmps, assign, body, hy, hRr⟩ := yield_any (m := 4) (HY.out k #[sV r] (k + 1) _ ⟨r, h1, rfl, rfl⟩ hj.out)
      clear hno h1 h2 hS hsp
      gi_wp2_with fail
      refine ⟨trivial, ?_⟩
      refine (callsIn_wide.2 HIX.out).mono ?_
      rintro e w1 ⟨rfl, rfl⟩
      gi_wp2
      refine hRr.mono ?_
      rintro e W3 ⟨v3, ⟨rfl, j3⟩ | ⟨rfl, j3⟩⟩
      · have V3 := Lib.hid (hv.out.trans (v3.mono (fun _ _ _ h => Or.inl h)))
        clear hRr hy v3
        gi_wp2
        go_end0
        exact ⟨⟨_, rfl⟩, V3.out, .inl ⟨_, HE.out, j3⟩⟩
      · have V3 := Lib.hid (hv.out.trans (v3.mono (fun _ _ _ h => Or.inl h)))
        clear hRr hy v3
        gi_wp2
        go_end0
        exact ⟨⟨_, rfl⟩, V3.out, .inr ⟨_, j3⟩⟩
    · have h1 : (spl c l)[k]? = some (r.take i) := by
        have h1 : ((spl c l).drop k)[0]? = some (r.take i) := by rw [← hS.out, hsp]; rfl
        rwa [List.getElem?_drop, Nat.add_zero] at h1
      have h2 : spl c (r.drop (i + c.length)) = (spl c l).drop (k + 1) := by
        rw [← List.tail_drop, ← hS.out, hsp]; rfl
      rw [hi] at HIX
      have hct := cut_to r i (by omega)
      have hcf := cut_from r ((i : Int) + c.length) (i + c.length) (by omega) (by omega)
      have HN := Lib.hid h2
      have hql : (r.drop (i + c.length)).length < r.length := by simp; omega
      obtain ⟨fn, tmps, assign, body, hy, hRr⟩ := yield_any (m := 4) (HY.out k #[sV (r.take i)] (k + 1) _ ⟨r.take i, h1, rfl, rfl⟩ hj.out)
      clear h1 h2 hS hsp hi
      generalize r.drop (i + c.length) = q at *
      gi_wp2_with fail
      refine ⟨trivial, ?_⟩
      refine (callsIn_wide.2 HIX.out).mono ?_
      rintro e w1 ⟨rfl, rfl⟩
      gi_wp2
      refine hRr.mono ?_
      rintro e W3 ⟨v3, ⟨rfl, j3⟩ | ⟨rfl, j3⟩⟩
      · have V3 := Lib.hid (hv.out.trans (v3.mono (fun _ _ _ h => Or.inl h)))
        have A3 := hC.out.a.save v3 (fun h => (HM.out _ _ h).1 (Or.inl rfl))
        have B3 := hC.out.b.save v3 (fun h => (HM.out _ _ h).1 (Or.inr (Or.inl rfl)))
        have D3 := hC.out.d.save v3 (fun h => (HM.out _ _ h).1 (Or.inr (Or.inr rfl)))
        have E3 := env_save hC.out.e v3 (fun o h => (HM.out _ _ h).2 rfl)
        have hbe : 0 ≠ b := fun e => by
          obtain ⟨m, hm⟩ := E3
          have := B3.c
          rw [← e, hm] at this
          cases this
        have E4 : Env (W3.setCell ⟨b, 0, none⟩ (sV q)) := by
          obtain ⟨m, hm⟩ := E3
          refine ⟨m, ?_⟩
          unfold World.cell? at hm ⊢
          rw [Below.heap_setCell _ _ _ _ (show 0 ≠ b from hbe)]
          exact hm
        have HZ := Lib.hid (show SCap a b d c q (W3.setCell ⟨b, 0, none⟩ (sV q)) from ⟨A3.other (fun e => hba e.symm) _ _, B3.set _, D3.other (fun e => hbd e.symm) _ _, E4⟩)
        have JZ := Lib.hid (HJ.out (k + 1) W3 (W3.setCell ⟨b, 0, none⟩ (sV q)) j3 (Save.set _ (fun _ _ => Or.inr (Or.inl rfl))))
        have VZ := Lib.hid (V3.out.trans (Save.set (p := ⟨b, 0, none⟩) (sV q) (fun _ _ => Or.inr (Or.inr (Or.inl rfl)))))
        have hMz := lenAt_of HZ.out.b
        have HMz := Lib.hid hMz
        have ca := A3.c
        have cb := B3.c
        have cd := D3.c
        have fb := B3.frz
        clear hRr hy v3 V3 A3 B3 D3 hMz E3 E4 hbe
        gi_wp2
        exact ⟨⟨k + 1, q, HN, by omega, HZ, JZ, VZ⟩, by rw [HMz.out, HMe.out]; omega⟩
      · have V3 := Lib.hid (hv.out.trans (v3.mono (fun _ _ _ h => Or.inl h)))
        clear hRr hy v3
        gi_wp2
        exact bodyPost_ret (results_none rfl _ _ _) rfl ⟨⟨_, rfl⟩, V3.out, .inr ⟨_, j3⟩⟩
end Go.Proofs.YtdhhlcgmkkpldaaGreatDoor.Hd
