/- The texts between a byte, told by strings.SplitSeq to a range over a function. -/
import Derived.Test.YtpkbcomdkamglaaDoorPlRg
import Derived.Test.YtpkbcomdkamglaaDoorPlSp
import Derived.Test.YtpkbcomdkamglaaDoorEnTrim
set_option linter.unusedSimpArgs false
set_option linter.unusedVariables false
namespace Go.Proofs.YtpkbcomdkamglaaDoor.Pl
open Go.ChangeShapes Go.WideShapes Go.ChangeAt Go.RowKit Go.Shelf
open En
attribute [local go_sem] Oper.semAt_some
theorem bv_save {t : TypeId} {b : Nat} {v : Value} {A B : World} {M : Nat → Obj → Prop} (h : Bv t b v A) (k : Save M A B) (hm : ¬ M b (.cells #[v] t)) : Bv t b v B := k.at h hm
theorem bv_set {t : TypeId} {b : Nat} {v : Value} {A : World} (h : Bv t b v A) (v' : Value) : Bv t b v' (A.setCell ⟨b, 0, none⟩ v') := by
  unfold Bv at h ⊢
  simp [World.setCell, Array.getElem?_modify, h]
theorem bv_other {t : TypeId} {b b' : Nat} {v : Value} {A : World} (h : Bv t b v A) (hne : b ≠ b') (j : Nat) (v' : Value) : Bv t b v (A.setCell ⟨b', j, none⟩ v') :=
  (Below.heap_setCell _ _ _ _ hne).trans h
theorem bv_frz {t : TypeId} {b : Nat} {v : Value} {A : World} (h : Bv t b v A) : A.frozen? ⟨b, 0, none⟩ = false := by unfold Bv at h; simp [World.frozen?, h]
/-- one behind the other, some texts are told -/
def seqS (ts : List B) (k : Nat) (arr : Array Value) (k' : Nat) : Prop := ∃ t, ts[k]? = some t ∧ arr = #[sV t] ∧ k' = k + 1
theorem ix_none {c : UInt8} : ∀ {l : B}, c ∉ l → Lib.indexByte l c = -1
  | [], _ => rfl
  | b :: l, h => by
    have hb : (b == c) = false := by rw [beq_eq_false_iff_ne]; exact fun e => h (by simp [e])
    rw [Lib.indexByte, hb, if_neg (by decide), ix_none (fun e => h (by simp [e]))]; rfl
theorem ix_some {c : UInt8} : ∀ {p : B} (q : B), c ∉ p → Lib.indexByte (p ++ c :: q) c = p.length
  | [], q, _ => by simp [Lib.indexByte]
  | b :: p, q, h => by
    have hb : (b == c) = false := by rw [beq_eq_false_iff_ne]; exact fun e => h (by simp [e])
    have ih := ix_some (p := p) q (fun e : c ∈ p => h (List.mem_cons_of_mem _ e))
    have : ((p.length : Int) == -1) = false := by rw [beq_eq_false_iff_ne]; omega
    rw [List.cons_append, Lib.indexByte, hb, if_neg (by decide), ih, this, if_neg (by decide), List.length_cons]; omega
/-- what the function has captured: the byte, the text, how much of the byte is told -/
structure SCap (a b d : Nat) (c : UInt8) (l : B) (W : World) : Prop where
  a : Bv 9 a (sV [c]) W
  b : Bv 9 b (sV l) W
  d : Bv 3 d (iV 0) W
theorem SCap.kept {a b d : Nat} {c : UInt8} {l : B} {W W' : World} (h : SCap a b d c l W) (k : Kept W W') : SCap a b d c l W' := ⟨h.a.kept k, h.b.kept k, h.d.kept k⟩
def SqT (a b d : Nat) (k : Nat) : Prop := k = a ∨ k = b ∨ k = d
/-- the function to range over: where its variables lie -/
def SqP (c : UInt8) (l : B) (w : World) (e : Ending) (w' : World) : Prop :=
  ∃ a b d : Nat, e = .returned (.func (.func 42) #[] #[.pointer (some ⟨a, 0, none⟩), .pointer (some ⟨b, 0, none⟩), .pointer (some ⟨d, 0, none⟩)]) ∧ SCap a b d c l w' ∧ Kept w w' ∧ (w.heap.size ≤ a ∧ w.heap.size ≤ b ∧ w.heap.size ≤ d) ∧ (a < w'.heap.size ∧ b < w'.heap.size ∧ d < w'.heap.size) ∧ b ≠ a ∧ b ≠ d
theorem split0_any (c : UInt8) (l : B) (w : World) : Calls Tryd.prog 29 #[.string ⟨l.toArray⟩, .string ⟨#[c]⟩, .int .i64 0] w (SqP c l w) := by
  have k0 := (Kept.refl w).alloc (.cells #[sV l] 9)
  have b0 := Bv.new w (sV l) 9
  go_enter Tryd.func29, Tryd.ntmps29
  go_upto_region 1 with (fail)
  have s0 : (w.alloc (.cells #[sV l] 9)).heap.size = w.heap.size + 1 := by simp
  generalize hx : w.alloc (.cells #[sV l] 9) = x at *
  have k1 := k0.alloc (.cells #[sV [c]] 9)
  have b1 := Bv.new x (sV [c]) 9
  have b01 := b0.kept ((Kept.refl x).alloc (.cells #[sV [c]] 9))
  have s1 : (x.alloc (.cells #[sV [c]] 9)).heap.size = x.heap.size + 1 := by simp
  generalize hy : x.alloc (.cells #[sV [c]] 9) = y at *
  have k2 := k1.alloc (.cells #[iV 0] 3)
  have b2 := Bv.new y (iV 0) 3
  have b02 := b01.kept ((Kept.refl y).alloc (.cells #[iV 0] 3))
  have b12 := b1.kept ((Kept.refl y).alloc (.cells #[iV 0] 3))
  have P := Lib.hid (show SCap (w.heap.size + 1) w.heap.size (w.heap.size + 2) c l (y.alloc (.cells #[iV 0] 3)) ∧ Kept w (y.alloc (.cells #[iV 0] 3)) from ⟨⟨by rw [← s0]; exact b12, b02, by rw [show w.heap.size + 2 = y.heap.size by omega]; exact b2⟩, k2⟩)
  have z1 : w.heap.size + 2 < (y.alloc (.cells #[iV 0] 3)).heap.size := by simp; omega
  generalize y.alloc (.cells #[iV 0] 3) = z at *
  clear k0 b0 k1 b1 b01 k2 b2 b02 b12
  go_wp2
  go_ret
  exact ⟨w.heap.size + 1, w.heap.size, w.heap.size + 2, rfl, P.out.1, P.out.2, by omega, by omega, by omega, by omega⟩
theorem splitSeq_any (c : UInt8) (l : B) (w : World) : Calls Tryd.prog 15 #[.string ⟨l.toArray⟩, .string ⟨#[c]⟩] w (SqP c l w) := by
  go_enter Tryd.func15, Tryd.ntmps15
  go_wp2_with fail
  refine (split0_any c l _).mono ?_
  rintro e w1 ⟨a, b, d, rfl, h⟩
  have H := Lib.hid h
  clear h
  go_wp2
  go_ret
  exact ⟨a, b, d, rfl, H.out⟩
def lenAt (b : Nat) (W : World) : Nat := match W.cell? ⟨b, 0, none⟩ with | some (Value.string s) => s.size | _ => 0
theorem lenAt_of {b : Nat} {l : B} {W : World} (h : Bv 9 b (sV l) W) : lenAt b W = l.length := by
  unfold lenAt
  rw [h.c]
  exact List.size_toArray
theorem splt_drop {c : UInt8} {l r p q : B} {k : Nat} (h : splt c r = (splt c l).drop k) (hr : r = p ++ c :: q) (hp : c ∉ p) : (splt c l)[k]? = some p ∧ splt c q = (splt c l).drop (k + 1) := by
  rw [hr, splt_app p q hp] at h
  have h1 : ((splt c l).drop k)[0]? = some p := by rw [← h]; rfl
  rw [List.getElem?_drop, Nat.add_zero] at h1
  refine ⟨h1, ?_⟩
  rw [← List.tail_drop, ← h]; rfl
theorem splt_last {c : UInt8} {l r : B} {k : Nat} (h : splt c r = (splt c l).drop k) (hp : c ∉ r) : (splt c l)[k]? = some r ∧ k + 1 = (splt c l).length := by
  rw [splt_none r hp] at h
  have h1 : ((splt c l).drop k)[0]? = some r := by rw [← h]; rfl
  rw [List.getElem?_drop, Nat.add_zero] at h1
  have := congrArg List.length h
  simp at this
  exact ⟨h1, by omega⟩
set_option maxRecDepth 100000 in
set_option maxHeartbeats 4000000 in
theorem split_itr (c : UInt8) (l : B) (hl : l.length ≤ 1000000) (a b d : Nat) (hba : b ≠ a) (hbd : b ≠ d) :
    Itr Tryd.prog 42 #[.pointer (some ⟨a, 0, none⟩), .pointer (some ⟨b, 0, none⟩), .pointer (some ⟨d, 0, none⟩)] (seqS (splt c l)) (fun k => k = (splt c l).length) 0 (SqT a b d) (SCap a b d c l) := by
  intro nn ll M J Jx W hcap hM hJ hJx hY h0
  have HC := Lib.hid hcap; have HM := Lib.hid hM; have HJ := Lib.hid hJ; have HJX := Lib.hid hJx; have HY := Lib.hid hY; have H0 := Lib.hid h0
  clear hcap hM hJ hJx hY h0
  have ca := HC.out.a.c
  refine callsIn_wide.2 ((callsIn_wide (n := 5)).1 ?_)
  refine callsIn_of_wp Tryd.func42 rfl trivial ?_ rfl
  simp only [Tryd.ntmps42, List.size_toArray, List.length_cons, List.length_nil, Nat.reduceAdd, Nat.reduceSub, Array.replicate_succ, Array.replicate_zero, List.push_toArray, List.append_toArray, List.nil_append, List.cons_append]
  gi_wp2
  gi_loopw [7] (fun _ wr => ∃ (k : Nat) (r : B), Hid (splt c r = (splt c l).drop k) ∧ r.length ≤ l.length ∧ Hid (SCap a b d c r wr) ∧ Hid (J k wr) ∧ Hid (Save (fun k o => M k o ∨ SqT a b d k) W wr)) (fun _ wr => lenAt b wr)
  case atStart => exact ⟨0, l, Lib.hid rfl, Nat.le_refl _, HC, H0, Lib.hid (Save.refl _ _)⟩
  case round =>
    clear ca
    obtain ⟨k, r, hS, hrl, hC, hj, hv⟩ := hrel
    have ca := hC.out.a.c
    have cb := hC.out.b.c
    have cd := hC.out.d.c
    have fb := bv_frz hC.out.b
    have hsz : (ByteArray.mk r.toArray).size = r.length := List.size_toArray
    have hM0 := lenAt_of hC.out.b
    have HMe := Lib.hid hM0
    clear hM0
    rcases cut_cases c r with hno | ⟨p, q, hr, hp⟩
    · obtain ⟨h1, h2⟩ := splt_last hS.out hno
      have HI := Lib.hid (show ∀ w, Calls Tryd.prog 43 #[.string ⟨r.toArray⟩, .string ⟨#[c]⟩] w fun e w' => e = .returned (.int .i64 (-1)) ∧ w' = w from fun w => by
        have := Tryd.strings_Index_one ⟨r.toArray⟩ c w
        rw [show Lib.indexByte (ByteArray.mk r.toArray).data.toList c = -1 from ix_none hno] at this
        exact this)
      have HE := Lib.hid h2
      obtain ⟨fn, tmps, assign, body, hy, hRr⟩ := yield_any (m := 4) (HY.out k #[sV r] (k + 1) _ ⟨r, h1, rfl, rfl⟩ hj.out)
      clear hno h1 h2 hS
      gi_wp2_with fail
      refine ⟨trivial, ?_⟩
      refine (callsIn_wide.2 (HI.out _)).mono ?_
      rintro e w1 ⟨rfl, rfl⟩
      gi_wp2
      refine hRr.mono ?_
      rintro e W3 ⟨v3, ⟨rfl, j3⟩ | ⟨rfl, j3⟩⟩
      · have V3 := Lib.hid (hv.out.trans (v3.mono (fun _ _ _ h => Or.inl h)))
        clear hRr hy v3
        gi_wp2
        go_end0
        exact ⟨⟨_, rfl⟩, V3.out, .inl ⟨_, HE.out, j3⟩⟩
      · have V3 := Lib.hid (hv.out.trans (v3.mono (fun _ _ _ h => Or.inl h)))
        clear hRr hy v3
        gi_wp2
        go_end0
        exact ⟨⟨_, rfl⟩, V3.out, .inr ⟨_, j3⟩⟩
    · obtain ⟨h1, h2⟩ := splt_drop hS.out hr hp
      have hrl2 : p.length + q.length + 1 = r.length := by rw [hr]; simp; omega
      have HI := Lib.hid (show ∀ w, Calls Tryd.prog 43 #[.string ⟨r.toArray⟩, .string ⟨#[c]⟩] w fun e w' => e = .returned (.int .i64 p.length) ∧ w' = w from fun w => by
        have := Tryd.strings_Index_one ⟨r.toArray⟩ c w
        rw [show Lib.indexByte (ByteArray.mk r.toArray).data.toList c = p.length from by rw [show (ByteArray.mk r.toArray).data.toList = p ++ c :: q from hr]; exact ix_some q hp] at this
        exact this)
      have hct := cut_to r p.length (by omega)
      rw [show r.take p.length = p by rw [hr, List.take_left]] at hct
      have hcf := cut_from r ((p.length : Int) + 1) (p.length + 1) (by omega) (by omega)
      rw [show r.drop (p.length + 1) = q by rw [hr, show p ++ c :: q = (p ++ [c]) ++ q by simp]; exact List.drop_left' (by simp)] at hcf
      have HN := Lib.hid h2
      obtain ⟨fn, tmps, assign, body, hy, hRr⟩ := yield_any (m := 4) (HY.out k #[sV p] (k + 1) _ ⟨p, h1, rfl, rfl⟩ hj.out)
      clear hr hp h1 h2 hS
      gi_wp2_with fail
      refine ⟨trivial, ?_⟩
      refine (callsIn_wide.2 (HI.out _)).mono ?_
      rintro e w1 ⟨rfl, rfl⟩
      gi_wp2
      refine hRr.mono ?_
      rintro e W3 ⟨v3, ⟨rfl, j3⟩ | ⟨rfl, j3⟩⟩
      · have V3 := Lib.hid (hv.out.trans (v3.mono (fun _ _ _ h => Or.inl h)))
        have A3 := bv_save hC.out.a v3 (fun h => HM.out _ _ h (Or.inl rfl))
        have B3 := bv_save hC.out.b v3 (fun h => HM.out _ _ h (Or.inr (Or.inl rfl)))
        have D3 := bv_save hC.out.d v3 (fun h => HM.out _ _ h (Or.inr (Or.inr rfl)))
        have HZ := Lib.hid (show SCap a b d c q (W3.setCell ⟨b, 0, none⟩ (sV q)) from ⟨bv_other A3 (fun e => hba e.symm) _ _, bv_set B3 _, bv_other D3 (fun e => hbd e.symm) _ _⟩)
        have JZ := Lib.hid (HJ.out (k + 1) W3 (W3.setCell ⟨b, 0, none⟩ (sV q)) j3 (Save.set _ (fun _ _ => Or.inr (Or.inl rfl))))
        have VZ := Lib.hid (V3.out.trans (Save.set (p := ⟨b, 0, none⟩) (sV q) (fun _ _ => Or.inr (Or.inr (Or.inl rfl)))))
        have hMz := lenAt_of HZ.out.b
        have HMz := Lib.hid hMz
        have ca := A3.c
        have cb := B3.c
        have cd := D3.c
        have fb := bv_frz B3
        clear hRr hy v3 V3 A3 B3 D3 hMz
        gi_wp2
        exact ⟨⟨k + 1, q, HN, by omega, HZ, JZ, VZ⟩, by rw [HMz.out, HMe.out]; omega⟩
      · have V3 := Lib.hid (hv.out.trans (v3.mono (fun _ _ _ h => Or.inl h)))
        clear hRr hy v3
        gi_wp2
        exact bodyPost_ret (results_none rfl _ _ _) rfl ⟨⟨_, rfl⟩, V3.out, .inr ⟨_, j3⟩⟩
end Go.Proofs.YtpkbcomdkamglaaDoor.Pl
