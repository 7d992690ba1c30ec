import Derived.Test.YtjlpkgipdkjfhaaGreatDoorPa
import Derived.Test.YtjlpkgipdkjfhaaGreatDoorEc
import Derived.Lib.BufStepsIn
import Derived.Sort.CutIn
import Derived.Deep.RegionHeld3
set_option linter.unusedVariables false
set_option linter.unusedSimpArgs false
namespace Go.Proofs.YtjlpkgipdkjfhaaGreatDoor.Pl
open Go.ChangeShapes Go.WideShapes Go.ChangeAt Go.RowKit Go.Shelf
open En
attribute [local go_sem] Oper.semAt_some
theorem bv_save {t : TypeId} {b : Nat} {v : Value} {A B : World} {M : Nat → Obj → Prop} (h : Bv t b v A) (k : Save M A B) (hm : ¬ M b (.cells #[v] t)) : Bv t b v B := k.at h hm
theorem bv_set {t : TypeId} {b : Nat} {v : Value} {A : World} (h : Bv t b v A) (v' : Value) : Bv t b v' (A.setCell ⟨b, 0, none⟩ v') := by
  unfold Bv at h ⊢
  simp [World.setCell, Array.getElem?_modify, h]
theorem bv_other {t : TypeId} {b b' : Nat} {v : Value} {A : World} (h : Bv t b v A) (hne : b ≠ b') (j : Nat) (v' : Value) : Bv t b v (A.setCell ⟨b', j, none⟩ v') :=
  (Below.heap_setCell _ _ _ _ hne).trans h
theorem bv_frz {t : TypeId} {b : Nat} {v : Value} {A : World} (h : Bv t b v A) : A.frozen? ⟨b, 0, none⟩ = false := by unfold Bv at h; simp [World.frozen?, h]
def seqS (ts : List B) (k : Nat) (arr : Array Value) (k' : Nat) : Prop := ∃ t, ts[k]? = some t ∧ arr = #[sV t] ∧ k' = k + 1
theorem ix_none {c : UInt8} : ∀ {l : B}, c ∉ l → Lib.indexByte l c = -1
  | [], _ => rfl
  | b :: l, h => by
    have hb : (b == c) = false := by rw [beq_eq_false_iff_ne]; exact fun e => h (by simp [e])
    rw [Lib.indexByte, hb, if_neg (by decide), ix_none (fun e => h (by simp [e]))]; rfl
theorem ix_some {c : UInt8} : ∀ {p : B} (q : B), c ∉ p → Lib.indexByte (p ++ c :: q) c = p.length
  | [], q, _ => by simp [Lib.indexByte]
  | b :: p, q, h => by
    have hb : (b == c) = false := by rw [beq_eq_false_iff_ne]; exact fun e => h (by simp [e])
    have ih := ix_some (p := p) q (fun e : c ∈ p => h (List.mem_cons_of_mem _ e))
    have : ((p.length : Int) == -1) = false := by rw [beq_eq_false_iff_ne]; omega
    rw [List.cons_append, Lib.indexByte, hb, if_neg (by decide), ih, this, if_neg (by decide), List.length_cons]; omega
structure SCap (a b d : Nat) (c : UInt8) (l : B) (W : World) : Prop where
  a : Bv 9 a (sV [c]) W
  b : Bv 9 b (sV l) W
  d : Bv 3 d (iV 0) W
theorem SCap.kept {a b d : Nat} {c : UInt8} {l : B} {W W' : World} (h : SCap a b d c l W) (k : Kept W W') : SCap a b d c l W' := ⟨h.a.kept k, h.b.kept k, h.d.kept k⟩
def SqT (a b d : Nat) (k : Nat) : Prop := k = a ∨ k = b ∨ k = d
def SqP (c : UInt8) (l : B) (w : World) (e : Ending) (w' : World) : Prop :=
  ∃ a b d : Nat, e = .returned (.func (.func 186) #[] #[.pointer (some ⟨a, 0, none⟩), .pointer (some ⟨b, 0, none⟩), .pointer (some ⟨d, 0, none⟩)]) ∧ SCap a b d c l w' ∧ Kept w w' ∧ (w.heap.size ≤ a ∧ w.heap.size ≤ b ∧ w.heap.size ≤ d) ∧ (a < w'.heap.size ∧ b < w'.heap.size ∧ d < w'.heap.size) ∧ b ≠ a ∧ b ≠ d
theorem split0_any (c : UInt8) (l : B) (w : World) : Calls Tryz.prog 131 #[.string ⟨l.toArray⟩, .string ⟨#[c]⟩, .int .i64 0] w (SqP c l w) := by
  have k0 := (Kept.refl w).alloc (.cells #[sV l] 9)
  have b0 := Bv.new w (sV l) 9
  go_enter Tryz.func131, Tryz.ntmps131
  go_upto_region 1 with (fail)
  have s0 : (w.alloc (.cells #[sV l] 9)).heap.size = w.heap.size + 1 := by simp
  generalize hx : w.alloc (.cells #[sV l] 9) = x at *
  have k1 := k0.alloc (.cells #[sV [c]] 9)
  have b1 := Bv.new x (sV [c]) 9
  have b01 := b0.kept ((Kept.refl x).alloc (.cells #[sV [c]] 9))
  have s1 : (x.alloc (.cells #[sV [c]] 9)).heap.size = x.heap.size + 1 := by simp
  generalize hy : x.alloc (.cells #[sV [c]] 9) = y at *
  have k2 := k1.alloc (.cells #[iV 0] 3)
  have b2 := Bv.new y (iV 0) 3
  have b02 := b01.kept ((Kept.refl y).alloc (.cells #[iV 0] 3))
  have b12 := b1.kept ((Kept.refl y).alloc (.cells #[iV 0] 3))
  have P := Lib.hid (show SCap (w.heap.size + 1) w.heap.size (w.heap.size + 2) c l (y.alloc (.cells #[iV 0] 3)) ∧ Kept w (y.alloc (.cells #[iV 0] 3)) from ⟨⟨by rw [← s0]; exact b12, b02, by rw [show w.heap.size + 2 = y.heap.size by omega]; exact b2⟩, k2⟩)
  have z1 : w.heap.size + 2 < (y.alloc (.cells #[iV 0] 3)).heap.size := by simp; omega
  generalize y.alloc (.cells #[iV 0] 3) = z at *
  clear k0 b0 k1 b1 b01 k2 b2 b02 b12
  go_wp2
  go_ret
  exact ⟨w.heap.size + 1, w.heap.size, w.heap.size + 2, rfl, P.out.1, P.out.2, by omega, by omega, by omega, by omega⟩
theorem splitSeq_any (c : UInt8) (l : B) (w : World) : Calls Tryz.prog 87 #[.string ⟨l.toArray⟩, .string ⟨#[c]⟩] w (SqP c l w) := by
  go_enter Tryz.func87, Tryz.ntmps87
  go_wp2_with fail
  refine (split0_any c l _).mono ?_
  rintro e w1 ⟨a, b, d, rfl, h⟩
  have H := Lib.hid h
  clear h
  go_wp2
  go_ret
  exact ⟨a, b, d, rfl, H.out⟩
def lenAt (b : Nat) (W : World) : Nat := match W.cell? ⟨b, 0, none⟩ with | some (Value.string s) => s.size | _ => 0
theorem lenAt_of {b : Nat} {l : B} {W : World} (h : Bv 9 b (sV l) W) : lenAt b W = l.length := by
  unfold lenAt
  rw [h.c]
  exact List.size_toArray
theorem splt_drop {c : UInt8} {l r p q : B} {k : Nat} (h : splt c r = (splt c l).drop k) (hr : r = p ++ c :: q) (hp : c ∉ p) : (splt c l)[k]? = some p ∧ splt c q = (splt c l).drop (k + 1) := by
  rw [hr, splt_app p q hp] at h
  have h1 : ((splt c l).drop k)[0]? = some p := by rw [← h]; rfl
  rw [List.getElem?_drop, Nat.add_zero] at h1
  refine ⟨h1, ?_⟩
  rw [← List.tail_drop, ← h]; rfl
theorem splt_last {c : UInt8} {l r : B} {k : Nat} (h : splt c r = (splt c l).drop k) (hp : c ∉ r) : (splt c l)[k]? = some r ∧ k + 1 = (splt c l).length := by
  rw [splt_none r hp] at h
  have h1 : ((splt c l).drop k)[0]? = some r := by rw [← h]; rfl
  rw [List.getElem?_drop, Nat.add_zero] at h1
  have := congrArg List.length h
  simp at this
  exact ⟨h1, by omega⟩
set_option maxRecDepth 100000 in
set_option maxHeartbeats 4000000 in
theorem split_itr (c : UInt8) (l : B) (hl : l.length ≤ 4000000) (a b d : Nat) (hba : b ≠ a) (hbd : b ≠ d) :
    Itr Tryz.prog 186 #[.pointer (some ⟨a, 0, none⟩), .pointer (some ⟨b, 0, none⟩), .pointer (some ⟨d, 0, none⟩)] (seqS (splt c l)) (fun k => k = (splt c l).length) 0 (SqT a b d) (SCap a b d c l) := by
  intro nn ll M J Jx W hcap hM hJ hJx hY h0
  have HC := Lib.hid hcap; have HM := Lib.hid hM; have HJ := Lib.hid hJ; have HJX := Lib.hid hJx; have HY := Lib.hid hY; have H0 := Lib.hid h0
  clear hcap hM hJ hJx hY h0
  have ca := HC.out.a.c
  refine callsIn_wide.2 ((callsIn_wide (n := 5)).1 ?_)
  refine callsIn_of_wp Tryz.func186 rfl trivial ?_ rfl
  simp only [Tryz.ntmps186, List.size_toArray, List.length_cons, List.length_nil, Nat.reduceAdd, Nat.reduceSub, Array.replicate_succ, Array.replicate_zero, List.push_toArray, List.append_toArray, List.nil_append, List.cons_append]
  gi_wp2
  gi_loopw [7] (fun _ wr => ∃ (k : Nat) (r : B), Hid (splt c r = (splt c l).drop k) ∧ r.length ≤ l.length ∧ Hid (SCap a b d c r wr) ∧ Hid (J k wr) ∧ Hid (Save (fun k o => M k o ∨ SqT a b d k) W wr)) (fun _ wr => lenAt b wr)
  case atStart => exact ⟨0, l, Lib.hid rfl, Nat.le_refl _, HC, H0, Lib.hid (Save.refl _ _)⟩
  case round =>
    clear ca
    obtain ⟨k, r, hS, hrl, hC, hj, hv⟩ := hrel
    have ca := hC.out.a.c
    have cb := hC.out.b.c
    have cd := hC.out.d.c
    have fb := bv_frz hC.out.b
    have hsz : (ByteArray.mk r.toArray).size = r.length := List.size_toArray
    have hM0 := lenAt_of hC.out.b
    have HMe := Lib.hid hM0
    clear hM0
    rcases cut_cases c r with hno | ⟨p, q, hr, hp⟩
    · obtain ⟨h1, h2⟩ := splt_last hS.out hno
      have HI := Lib.hid (show ∀ w, Calls Tryz.prog 188 #[.string ⟨r.toArray⟩, .string ⟨#[c]⟩] w fun e w' => e = .returned (.int .i64 (-1)) ∧ w' = w from fun w => by
        have := Tryz.strings_Index_one ⟨r.toArray⟩ c w
        rw [show Lib.indexByte (ByteArray.mk r.toArray).data.toList c = -1 from ix_none hno] at this
        exact this)
      have HE := Lib.hid h2
      obtain ⟨fn, tmps, assign, body, hy, hRr⟩ := yield_any (m := 4) (HY.out k #[sV r] (k + 1) _ ⟨r, h1, rfl, rfl⟩ hj.out)
      clear hno h1 h2 hS
      gi_wp2_with fail
      refine ⟨trivial, ?_⟩
      refine (callsIn_wide.2 (HI.out _)).mono ?_
      rintro e w1 ⟨rfl, rfl⟩
      gi_wp2
      refine hRr.mono ?_
      rintro e W3 ⟨v3, ⟨rfl, j3⟩ | ⟨rfl, j3⟩⟩
      · have V3 := Lib.hid (hv.out.trans (v3.mono (fun _ _ _ h => Or.inl h)))
        clear hRr hy v3
        gi_wp2
        go_end0
        exact ⟨⟨_, rfl⟩, V3.out, .inl ⟨_, HE.out, j3⟩⟩
      · have V3 := Lib.hid (hv.out.trans (v3.mono (fun _ _ _ h => Or.inl h)))
        clear hRr hy v3
        gi_wp2
        go_end0
        exact ⟨⟨_, rfl⟩, V3.out, .inr ⟨_, j3⟩⟩
    · obtain ⟨h1, h2⟩ := splt_drop hS.out hr hp
      have hrl2 : p.length + q.length + 1 = r.length := by rw [hr]; simp; omega
      have HI := Lib.hid (show ∀ w, Calls Tryz.prog 188 #[.string ⟨r.toArray⟩, .string ⟨#[c]⟩] w fun e w' => e = .returned (.int .i64 p.length) ∧ w' = w from fun w => by
        have := Tryz.strings_Index_one ⟨r.toArray⟩ c w
        rw [show Lib.indexByte (ByteArray.mk r.toArray).data.toList c = p.length from by rw [show (ByteArray.mk r.toArray).data.toList = p ++ c :: q from hr]; exact ix_some q hp] at this
        exact this)
      have hct := cut_to r p.length (by omega)
      rw [show r.take p.length = p by rw [hr, List.take_left]] at hct
      have hcf := cut_from r ((p.length : Int) + 1) (p.length + 1) (by omega) (by omega)
      rw [show r.drop (p.length + 1) = q by rw [hr, show p ++ c :: q = (p ++ [c]) ++ q by simp]; exact List.drop_left' (by simp)] at hcf
      have HN := Lib.hid h2
      obtain ⟨fn, tmps, assign, body, hy, hRr⟩ := yield_any (m := 4) (HY.out k #[sV p] (k + 1) _ ⟨p, h1, rfl, rfl⟩ hj.out)
      clear hr hp h1 h2 hS
      gi_wp2_with fail
      refine ⟨trivial, ?_⟩
      refine (callsIn_wide.2 (HI.out _)).mono ?_
      rintro e w1 ⟨rfl, rfl⟩
      gi_wp2
      refine hRr.mono ?_
      rintro e W3 ⟨v3, ⟨rfl, j3⟩ | ⟨rfl, j3⟩⟩
      · have V3 := Lib.hid (hv.out.trans (v3.mono (fun _ _ _ h => Or.inl h)))
        have A3 := bv_save hC.out.a v3 (fun h => HM.out _ _ h (Or.inl rfl))
        have B3 := bv_save hC.out.b v3 (fun h => HM.out _ _ h (Or.inr (Or.inl rfl)))
        have D3 := bv_save hC.out.d v3 (fun h => HM.out _ _ h (Or.inr (Or.inr rfl)))
        have HZ := Lib.hid (show SCap a b d c q (W3.setCell ⟨b, 0, none⟩ (sV q)) from ⟨bv_other A3 (fun e => hba e.symm) _ _, bv_set B3 _, bv_other D3 (fun e => hbd e.symm) _ _⟩)
        have JZ := Lib.hid (HJ.out (k + 1) W3 (W3.setCell ⟨b, 0, none⟩ (sV q)) j3 (Save.set _ (fun _ _ => Or.inr (Or.inl rfl))))
        have VZ := Lib.hid (V3.out.trans (Save.set (p := ⟨b, 0, none⟩) (sV q) (fun _ _ => Or.inr (Or.inr (Or.inl rfl)))))
        have hMz := lenAt_of HZ.out.b
        have HMz := Lib.hid hMz
        have ca := A3.c
        have cb := B3.c
        have cd := D3.c
        have fb := bv_frz B3
        clear hRr hy v3 V3 A3 B3 D3 hMz
        gi_wp2
        exact ⟨⟨k + 1, q, HN, by omega, HZ, JZ, VZ⟩, by rw [HMz.out, HMe.out]; omega⟩
      · have V3 := Lib.hid (hv.out.trans (v3.mono (fun _ _ _ h => Or.inl h)))
        clear hRr hy v3
        gi_wp2
        exact bodyPost_ret (results_none rfl _ _ _) rfl ⟨⟨_, rfl⟩, V3.out, .inr ⟨_, j3⟩⟩
end Go.Proofs.YtjlpkgipdkjfhaaGreatDoor.Pl
namespace Go.Proofs.YtjlpkgipdkjfhaaGreatDoor.Pl
open Go.ChangeShapes Go.WideShapes Go.ChangeAt Go.RowKit Go.Shelf
open En
def stp (most : Int) (s : List B × B) (w : B) : List B × B :=
  if s.2 ≠ [] ∧ most < (s.2.length : Int) + 1 + w.length then (s.1 ++ [s.2], w) else (s.1, if s.2 = [] then w else s.2 ++ [32] ++ w)
theorem fil_fold (most : Int) : ∀ (ws : List B) (ls : List B) (md : B), ls ++ fil most ws md = (ws.foldl (stp most) (ls, md)).1 ++ [(ws.foldl (stp most) (ls, md)).2]
  | [], ls, md => rfl
  | w :: ws, ls, md => by
    rw [fil, List.foldl_cons]
    unfold stp
    simp only
    split
    · have := fil_fold most ws (ls ++ [md]) w
      rw [show ls ++ md :: fil most ws w = (ls ++ [md]) ++ fil most ws w by simp]
      exact this
    · exact fil_fold most ws ls _
theorem stp_bd (most : Int) (M : Nat) : ∀ (ws : List B) (s : List B × B), (∀ w ∈ ws, w.length ≤ M) → (ws.foldl (stp most) s).1.length ≤ s.1.length + ws.length ∧ (ws.foldl (stp most) s).2.length ≤ s.2.length + ws.length * (M + 1)
  | [], s, _ => by simp
  | w :: ws, s, h => by
    have hw := h w (by simp)
    obtain ⟨h1, h2⟩ := stp_bd most M ws (stp most s w) (fun x hx => h x (by simp [hx]))
    have k1 : (stp most s w).1.length ≤ s.1.length + 1 := by unfold stp; split <;> simp
    have k2 : (stp most s w).2.length ≤ s.2.length + (M + 1) := by
      unfold stp
      split
      · simp only; omega
      · simp only
        split
        · omega
        · simp; omega
    rw [List.foldl_cons, List.length_cons, Nat.add_mul, Nat.one_mul]
    omega
theorem stp_take {most : Int} {ws : List B} {k : Nat} {t : B} (h : ws[k]? = some t) : (ws.take (k + 1)).foldl (stp most) ([], []) = stp most ((ws.take k).foldl (stp most) ([], [])) t := by
  rw [List.take_add_one, h, List.foldl_append]; rfl
theorem fil_wds (most : Int) (l : B) : fil most (splt 32 (tr l)) [] = fil most (wds l) [] := by
  unfold wds
  by_cases h : tr l = []
  · rw [if_pos h, h]; rfl
  · rw [if_neg h]
theorem own_set {w : World} {B0 : Nat} {e : TypeId} {size : Nat} {v : Value} {n : Nat} {xs : List Value} (h : w.ownsRow B0 e size v n xs) (j i : Nat) (x : Value) (hj : j < B0) : (w.setCell ⟨j, i, none⟩ x).ownsRow B0 e size v n xs := by
  refine ⟨h.1, ?_⟩
  rcases h.2 with h2 | ⟨g, cap, cur, h1, h2, h3, h4⟩
  · exact Or.inl h2
  · exact Or.inr ⟨g, cap, cur, h1, h2, (Below.heap_setCell _ _ _ _ (by show g ≠ j; omega)).trans h3, h4⟩
theorem own_turn {w w' : World} {B0 : Nat} {e : TypeId} {size : Nat} {v : Value} {n : Nat} {xs : List Value} {M : Nat → Obj → Prop} (h : w.ownsRow B0 e size v n xs) (k : Save M w w') (hm : ∀ g c, B0 ≤ g → ¬ M g (.cells c e (0, 0))) : w'.ownsRow B0 e size v n xs := by
  refine ⟨h.1, ?_⟩
  rcases h.2 with h2 | ⟨g, cap, cur, h1, h2, h3, h4⟩
  · exact Or.inl h2
  · exact Or.inr ⟨g, cap, cur, h1, h2, k.at h3 (hm g cur h2), h4⟩
def Mf (T : Nat → Prop) (h1 h2 n1 : Nat) (k : Nat) (o : Obj) : Prop := o.isCells = true ∧ ¬ T k ∧ (k = h1 ∨ k = h2 ∨ n1 ≤ k)
structure Cx (w : World) (T : Nat → Prop) (h0 h1 h2 n1 : Nat) : Prop where
  a0 : w.heap.size ≤ h0
  a1 : h0 < h1
  a2 : h1 ≤ h2
  a3 : h2 < n1
  t : ∀ k, T k → h2 < k ∧ k < n1
theorem Cx.no {w : World} {T : Nat → Prop} {h0 h1 h2 n1 : Nat} (c : Cx w T h0 h1 h2 n1) {k : Nat} (h : k ≤ h2 ∨ n1 ≤ k) : ¬ T k := fun q => by have := c.t k q; omega
structure FlI (h0 h1 h2 n1 : Nat) (most : Int) (v u : Value) (ls : List B) (md : B) (w V : World) : Prop where
  m : Bv 3 h0 (iV most) V
  lb : Bv 42 h1 v V
  mb : Bv 25 h2 u V
  lo : OwnS n1 v ls V
  mo : OwnB n1 u md V
  k : Kept w V
  sz : n1 ≤ V.heap.size
section
variable {h0 h1 h2 n1 : Nat} {most : Int} {v u : Value} {ls : List B} {md : B} {w V : World} {T : Nat → Prop}
theorem FlI.kept {V' : World} (h : FlI h0 h1 h2 n1 most v u ls md w V) (k : Kept V V') : FlI h0 h1 h2 n1 most v u ls md w V' :=
  ⟨h.m.kept k, h.lb.kept k, h.mb.kept k, OwnS.kept h.lo k, OwnB.kept h.mo k, h.k.trans k, Nat.le_trans h.sz k.size⟩
theorem FlI.turn {V' : World} (c : Cx w T h0 h1 h2 n1) (h : FlI h0 h1 h2 n1 most v u ls md w V) (k : Save (Itn T n1) V V') : FlI h0 h1 h2 n1 most v u ls md w V' := by
  have a1 := c.a1; have a2 := c.a2; have a3 := c.a3; have a0 := c.a0
  have no : ∀ j o, j ≤ h2 → ¬ Itn T n1 j o := fun j o hj q => by
    rcases q with q | q
    · exact c.no (Or.inl hj) q
    · omega
  have no2 : ∀ g (cs : Array Value) (e : TypeId), n1 ≤ g → ¬ Itn T n1 g (.cells cs e (0, 0)) := fun g cs e hg q => by
    rcases q with q | q
    · exact c.no (Or.inr hg) q
    · cases q.2
  refine ⟨bv_save h.m k (no _ _ (by omega)), bv_save h.lb k (no _ _ (by omega)), bv_save h.mb k (no _ _ (by omega)), own_turn h.lo k (fun g cs hg => no2 g cs _ hg), own_turn h.mo k (fun g cs hg => no2 g cs _ hg), ?_, Nat.le_trans h.sz k.size⟩
  refine ⟨k.os.trans h.k.os, k.output.trans h.k.output, Nat.le_trans h.k.size k.size, fun j hj => ?_, k.tape.trans h.k.tape⟩
  obtain ⟨ob, hob⟩ := at_some (A := V) (k := j) (Nat.lt_of_lt_of_le hj h.k.size)
  rw [k.block j ob hob (no j ob (by omega)), ← hob, h.k.block j hj]
theorem ub_of {e : TypeId} {size n : Nat} {xs : List Value} (h : V.ownsRow n1 e size v n xs) : ∀ j, j < n1 → v.ownBlock ≠ some j := fun j hj e' => by
  have := (World.ownsRow.lt h j e').1
  omega
theorem bv_grown {t : TypeId} {b : Nat} {x : Value} {y : World} {row : Option Nat} (h : Bv t b x V) (hg : V.grownBy y row) (hne : row ≠ some b) : Bv t b x y := (hg.block b h.lt (fun e => hne e.symm)).trans h
theorem save_row {y : World} {j i : Nat} {x : Value} {row : Option Nat} {M : Nat → Obj → Prop} (hg : V.grownBy y row) (h1 : ∀ g o, row = some g → V.heap[g]? = some o → M g o) (h2 : ∀ o, V.heap[j]? = some o → M j o) : Save M V (y.setCell ⟨j, i, none⟩ x) :=
  ⟨hg.os, hg.output, by have := hg.size; simpa [World.setCell] using this, fun k o hk hn => by
    have hj : k ≠ j := fun e => hn (by subst e; exact h2 o hk)
    rw [Below.heap_setCell _ _ _ _ hj, hg.block k (Array.getElem?_eq_some_iff.1 hk).1 (fun e => hn (h1 k o e.symm hk)), hk], hg.tape⟩
theorem mf_row {e : TypeId} {size n : Nat} {xs : List Value} (c : Cx w T h0 h1 h2 n1) (h : V.ownsRow n1 e size v n xs) : ∀ g o, v.ownBlock = some g → V.heap[g]? = some o → Mf T h1 h2 n1 g o := fun g o hg ho => by
  obtain ⟨cs, hc⟩ := own_kind h g hg
  rw [hc] at ho
  cases ho
  have := (World.ownsRow.lt h g hg).1
  exact ⟨rfl, c.no (Or.inr this), Or.inr (Or.inr this)⟩
theorem mf_box {t : TypeId} {b : Nat} {x : Value} (c : Cx w T h0 h1 h2 n1) (h : Bv t b x V) (hb : b = h1 ∨ b = h2) : ∀ o, V.heap[b]? = some o → Mf T h1 h2 n1 b o := fun o ho => by
  unfold Bv at h
  rw [h] at ho
  cases ho
  have a2 := c.a2
  exact ⟨rfl, c.no (Or.inl (by omega)), by omega⟩
theorem FlI.pushL {y : World} {v' : Value} {t : B} (c : Cx w T h0 h1 h2 n1) (h12 : h1 < h2) (h : FlI h0 h1 h2 n1 most v u ls md w V) (ho : OwnS n1 v' (ls ++ [t]) y) (hg : V.grownBy y v.ownBlock) :
    FlI h0 h1 h2 n1 most v' u (ls ++ [t]) md w (y.setCell ⟨h1, 0, none⟩ v') ∧ Save (Mf T h1 h2 n1) V (y.setCell ⟨h1, 0, none⟩ v') := by
  have a1 := c.a1; have a2 := c.a2; have a3 := c.a3; have a0 := c.a0
  have ub := ub_of h.lo
  refine ⟨⟨bv_other (bv_grown h.m hg (ub _ (by omega))) (by omega) _ _, bv_set (bv_grown h.lb hg (ub _ (by omega))) _, bv_other (bv_grown h.mb hg (ub _ (by omega))) (by omega) _ _, own_set ho _ _ _ (by omega), own_set (own_keep h.mo hg (NoRow.own h.lo (by decide))) _ _ _ (by omega), ?_, ?_⟩, save_row hg (mf_row c h.lo) (mf_box c h.lb (Or.inl rfl))⟩
  · exact (kept_row h.k hg (fun g hg' => by have := (World.ownsRow.lt h.lo g hg').1; omega)).setCell (by simp only; omega) _
  · have := hg.size; have := h.sz; simp [World.setCell]; omega
theorem FlI.setM {y : World} {u' : Value} {md' : B} (c : Cx w T h0 h1 h2 n1) (h12 : h1 < h2) (h : FlI h0 h1 h2 n1 most v u ls md w V) (ho : OwnB n1 u' md' y) (hg : V.grownBy y u.ownBlock) :
    FlI h0 h1 h2 n1 most v u' ls md' w (y.setCell ⟨h2, 0, none⟩ u') ∧ Save (Mf T h1 h2 n1) V (y.setCell ⟨h2, 0, none⟩ u') := by
  have a1 := c.a1; have a2 := c.a2; have a3 := c.a3; have a0 := c.a0
  have ub := ub_of h.mo
  refine ⟨⟨bv_other (bv_grown h.m hg (ub _ (by omega))) (by omega) _ _, bv_other (bv_grown h.lb hg (ub _ (by omega))) (by omega) _ _, bv_set (bv_grown h.mb hg (ub _ (by omega))) _, own_set (own_keep h.lo hg (NoRow.own h.mo (by decide))) _ _ _ (by omega), own_set ho _ _ _ (by omega), ?_, ?_⟩, save_row hg (mf_row c h.mo) (mf_box c h.mb (Or.inr rfl))⟩
  · exact (kept_row h.k hg (fun g hg' => by have := (World.ownsRow.lt h.mo g hg').1; omega)).setCell (by simp only; omega) _
  · have := hg.size; have := h.sz; simp [World.setCell]; omega
end
theorem kept_put {w x : World} (h : Kept w x) {r : Nat} (hr : w.heap.size ≤ r) (o : Obj) : Kept w (x.putObj r o) :=
  ⟨h.os, h.output, by have := h.size; simpa using this, fun j hj => (World.putObj_heap_other (by omega)).trans (h.block j hj), h.tape⟩
theorem own_deferred {B0 r : Nat} {v : Value} {ls : List B} {y : World} (h : OwnS B0 v ls y) (hK : y.heap[r]? = some (.deferred (some []))) (o : Obj) : OwnS B0 v ls (y.putObj r o) :=
  own_turn h (Save.put (M := fun k o => k = r ∧ o.isCells = false) o (fun o' ho => by rw [hK] at ho; cases ho; exact ⟨rfl, rfl⟩)) (fun g c _ q => by cases q.2)
theorem def_row {B0 r : Nat} {v : Value} {ls : List B} {y z : World} (h : OwnS B0 v ls y) (hg : y.grownBy z v.ownBlock) (hK : y.heap[r]? = some (.deferred (some []))) : z.heap[r]? = some (.deferred (some [])) :=
  (hg.block r (Array.getElem?_eq_some_iff.1 hK).1 (fun e => by
    obtain ⟨c, hc⟩ := own_kind h r e.symm
    rw [hc] at hK; cases hK)).trans hK
theorem grown_refl (w : World) (row : Option Nat) : w.grownBy w row := ⟨rfl, rfl, rfl, Nat.le_refl _, fun _ _ _ => rfl⟩
theorem own_empty {n1 g n cap : Nat} {md : B} {V : World} (h : OwnB n1 (.slice (some ⟨g, 0, none⟩) n cap) md V) : OwnB n1 (.slice (some ⟨g, 0, none⟩) 0 cap) [] V := by
  refine ⟨rfl, ?_⟩
  rcases h.2 with ⟨h1, _⟩ | ⟨g', cap', cur, h1, h2, h3, h4, h5, h6, h7⟩
  · cases h1
  · injection h1 with e1 _ e3
    cases e1
    subst e3
    exact Or.inr ⟨g, cap, cur, rfl, h2, h3, Nat.zero_le _, h5, h6, by simp [Lib.byteCells]⟩
theorem wpListIn_pushS {F : Fence} {n : Nat} {ops : Array Oper} {rest : List Oper} {op : Oper} {a : Act} {w : World} {Q : Exit → Act → World → Prop} (hg : op.guard = none) (sx x : Operand) (ho : op.op = .call { callee := .builtin .append, args := #[sx, x], argTypes := #[42, 42] })
    (B0 : Nat) (v : Value) (ls : List B) (t : B) (k : Nat) (hs : a.eval sx = v) (hO : OwnS B0 v ls w) (hx : a.eval x = .slice (some ⟨k, 0, none⟩) 1 1) (hc : w.cell? ⟨k, 0, none⟩ = some (sV t)) (hl : ls.length ≤ 10000000) (hB : B0 ≤ w.heap.size)
    (h : ∀ v' w', OwnS B0 v' (ls ++ [t]) w' → w.grownBy w' v.ownBlock → wpListIn F n Tryz.prog ops Q rest (a.put op.dst v') w') : wpListIn F n Tryz.prog ops Q (op :: rest) a w := by
  obtain ⟨i0, hi, hz0, hz1, hz2⟩ := info_parts infoS
  refine wpListIn_append_own w hg sx x 42 ho B0 9 i0 _ 1 16 Tryz.underlying42 hi hz0 hz1 hz2 rfl (by decide) v ls.length (ls.map sV) hs hO ⟨k, 0, none⟩ 1 1 [sV t] hx rfl (fun j u hj => ?_) (fun u hu => by simp at hu; subst hu; rfl) (by unfold maxLen; omega) (by omega) hB ?_
  · match j, hj with
    | 0, hj => simp at hj; subst hj; simpa [Addr.add] using hc
  · intro v' w' h2 h3 _
    refine h v' w' ?_ h3
    unfold OwnS
    rw [List.length_append, List.map_append]
    exact h2
theorem wpListIn_byteB {F : Fence} {n : Nat} {ops : Array Oper} {rest : List Oper} {op : Oper} {a : Act} {w : World} {Q : Exit → Act → World → Prop} (hg : op.guard = none) (sx x : Operand) (ho : op.op = .call { callee := .builtin .append, args := #[sx, x], argTypes := #[25, 25] })
    (B0 : Nat) (v : Value) (l : B) (t : UInt8) (k : Nat) (hs : a.eval sx = v) (hO : OwnB B0 v l w) (hx : a.eval x = .slice (some ⟨k, 0, none⟩) 1 1) (hc : w.cell? ⟨k, 0, none⟩ = some (.int .u8 t.toNat)) (hl : l.length ≤ 100000000000000) (hB : B0 ≤ w.heap.size)
    (h : ∀ v' w', OwnB B0 v' (l ++ [t]) w' → w.grownBy w' v.ownBlock → wpListIn F n Tryz.prog ops Q rest (a.put op.dst v') w') : wpListIn F n Tryz.prog ops Q (op :: rest) a w := by
  obtain ⟨i0, hi, hz0, hz1, hz2⟩ := info_parts info8
  refine wpListIn_append_own w hg sx x 25 ho B0 5 i0 _ 1 1 Tryz.underlying25 hi hz0 hz1 hz2 rfl (by decide) v l.length (Lib.byteCells l) hs hO ⟨k, 0, none⟩ 1 1 [.int .u8 t.toNat] hx rfl (fun j u hj => ?_) (fun u hu => by simp at hu; subst hu; rfl) (by unfold maxLen; omega) (by omega) hB ?_
  · match j, hj with
    | 0, hj => simp at hj; subst hj; simpa [Addr.add] using hc
  · intro v' w' h2 h3 _
    refine h v' w' ?_ h3
    unfold OwnB
    rw [List.length_append, byteCells_app]
    exact h2
theorem wpListIn_strB {F : Fence} {n : Nat} {ops : Array Oper} {rest : List Oper} {op : Oper} {a : Act} {w : World} {Q : Exit → Act → World → Prop} (hg : op.guard = none) (sx x : Operand) (ho : op.op = .call { callee := .builtin .append, args := #[sx, x], argTypes := #[25, 9] })
    (B0 : Nat) (v : Value) (l t : B) (hs : a.eval sx = v) (hO : OwnB B0 v l w) (hx : a.eval x = .string ⟨t.toArray⟩) (hl : l.length + t.length ≤ 100000000000000) (hB : B0 ≤ w.heap.size)
    (h : ∀ v' w', OwnB B0 v' (l ++ t) w' → w.grownBy w' v.ownBlock → wpListIn F n Tryz.prog ops Q rest (a.put op.dst v') w') : wpListIn F n Tryz.prog ops Q (op :: rest) a w := by
  obtain ⟨i0, hi, hz0, hz1, hz2⟩ := info_parts info8
  have hsz : (ByteArray.mk t.toArray).size = t.length := List.size_toArray
  refine wpListIn_plain hg fun K hK => ?_
  obtain ⟨v', w', hr, h2, h3, h4⟩ := Lib.run_append_own_string (P := Tryz.prog) w B0 25 9 op.type 5 i0 Tryz.underlying25 Tryz.underlying9 hi hz0 hz1 hz2 v l.length (Lib.byteCells l) hO ⟨t.toArray⟩ (by rw [hsz]; unfold maxLen; omega) (by rw [hsz]; omega) hB
  rw [hsz, str_cells, ← byteCells_app] at h2
  unfold Oper.wpIn
  refine ⟨?_, ?_⟩
  · simp [Oper.about, ho, resolve, Target.leads, Sem.run_pure]
  · rw [Oper.semAt_plain F _ _ (by rw [ho]; intro c hc'; cases hc')]
    simp [execOp, ho, resolve, invoke, builtin, hs, hx, hr, Result.andThen]
    exact hK _ _ (h v' w' (by unfold OwnB; rw [List.length_append]; exact h2) h3)
end Go.Proofs.YtjlpkgipdkjfhaaGreatDoor.Pl
namespace Go.Proofs.YtjlpkgipdkjfhaaGreatDoor.Pl
open Go.ChangeShapes Go.WideShapes Go.ChangeAt Go.RowKit Go.Shelf
open En
attribute [local go_sem] Oper.semAt_some
set_option maxRecDepth 100000 in
set_option maxHeartbeats 4000000 in
theorem filled_any (l : B) (most : Int) (w : World) (hE : Env w) (hl : l.length ≤ 2200000) :
    Calls Tryz.prog 161 #[.string ⟨l.toArray⟩, .int .i64 most] w fun e w' => ∃ v, e = .returned v ∧ OwnS w.heap.size v (fil most (wds l) []) w' ∧ Kept w w' := by
  have HT := Lib.hid (fun w hE => trim_any l w hE (by omega))
  have HR := Lib.hid (show fil most (wds l) [] = (fil most (splt 32 (tr l)) []) from (fil_wds most l).symm)
  have HE := Lib.hid hE
  have htl := tr_le l
  generalize fil most (wds l) [] = res at *
  generalize tr l = x at *
  clear hE
  have b0 := Bv.new w (iV most) 3
  have k0 := (Kept.refl w).alloc (.cells #[iV most] 3)
  have s0 : (w.alloc (.cells #[iV most] 3)).heap.size = w.heap.size + 1 := by simp
  refine (callsIn_wide (n := 9)).1 ?_
  refine callsIn_of_wp_marks Tryz.func161 rfl trivial ?_ rfl
  simp only [Tryz.ntmps161, List.size_toArray, List.length_cons, List.length_nil, Nat.reduceAdd, Nat.reduceSub, Array.replicate_succ, Array.replicate_zero, List.push_toArray, List.append_toArray, List.nil_append, List.cons_append]
  gi_upto_region 1 with (fail)
  generalize w.alloc (.cells #[iV most] 3) = x0 at *
  have b1 := Bv.new x0 (.slice none 0 0) 42
  have k1 := (Kept.refl x0).alloc (.cells #[.slice none 0 0] 42)
  have s1 : (x0.alloc (.cells #[.slice none 0 0] 42)).heap.size = x0.heap.size + 1 := by simp
  have b01 := b0.kept k1
  rw [s0] at b1 s1
  gi_upto_region 2 with (fail)
  generalize x0.alloc (.cells #[.slice none 0 0] 42) = x1 at *
  have b2 := Bv.new x1 (.slice none 0 0) 25
  have k2 := (Kept.refl x1).alloc (.cells #[.slice none 0 0] 25)
  have s2 : (x1.alloc (.cells #[.slice none 0 0] 25)).heap.size = x1.heap.size + 1 := by simp
  have b02 := b01.kept k2
  have b12 := b1.kept k2
  rw [s1] at b2 s2
  have K2 := (k0.trans k1).trans k2
  gi_upto_region 3 with (fail)
  generalize x1.alloc (.cells #[.slice none 0 0] 25) = x2 at *
  clear b0 b1 b01 k0 k1 k2 s0 s1
  gi_wp2_with fail
  refine ⟨trivial, ?_⟩
  refine (callsIn_wide.2 (HT.out _ (HE.out.kept K2))).mono ?_
  rintro e x3 ⟨rfl, k3⟩
  gi_wp2_with fail
  refine ⟨trivial, ?_⟩
  refine (callsIn_wide.2 (splitSeq_any 32 x _)).mono ?_
  rintro e W1 ⟨a, b, d, rfl, hC, k4, ⟨ha, hb, hd⟩, ⟨ha1, hb1, hd1⟩, hba, hbd⟩
  gi_wp2
  have hz3 := k3.size
  have hz4 := k4.size
  have cx : Cx w (SqT a b d) w.heap.size (w.heap.size + 1) (w.heap.size + 1 + 1) W1.heap.size :=
    ⟨Nat.le_refl _, by omega, by omega, by omega, fun k hk => by rcases hk with rfl | rfl | rfl <;> omega⟩
  have F0 : FlI w.heap.size (w.heap.size + 1) (w.heap.size + 1 + 1) W1.heap.size most (.slice none 0 0) (.slice none 0 0) [] [] w W1 :=
    ⟨(b02.kept k3).kept k4, (b12.kept k3).kept k4, (b2.kept k3).kept k4, World.ownsRow_nil _ _ _ _, OwnB.nil _ _, (K2.trans k3).trans k4, Nat.le_refl _⟩
  clear b02 b12 b2 K2 k3 k4
  have hwl : ∀ t ∈ splt 32 x, t.length ≤ 2200000 := fun t ht => by have := (splt_mem x t ht).2; omega
  have hwn := splt_len 32 x
  have HIt := split_itr 32 x (by omega) a b d hba hbd
  generalize splt 32 x = ws at *
  refine range_itr (n := 9) (gf := 186) (lb := #[.pointer (some ⟨a, 0, none⟩), .pointer (some ⟨b, 0, none⟩), .pointer (some ⟨d, 0, none⟩)]) rfl (enters_of Tryz.func186 (by kernel_rfl) rfl) (T := SqT a b d) (fun k hk => (cx.t k hk).2)
    HIt (fun s arr s' hs => by obtain ⟨_, _, rfl, _⟩ := hs; rfl)
    (Mf (SqT a b d) (w.heap.size + 1) (w.heap.size + 1 + 1) W1.heap.size) (fun k o hk => ⟨hk.2.1, hk.1⟩) hC (fun A B k h => h.kept k)
    (fun k V => ∃ v u, FlI w.heap.size (w.heap.size + 1) (w.heap.size + 1 + 1) W1.heap.size most v u ((ws.take k).foldl (stp most) ([], [])).1 ((ws.take k).foldl (stp most) ([], [])).2 w V)
    (fun _ _ _ => False)
    ?hI ?hIx ⟨_, _, F0⟩ ?round ?done ?stop
  case hI =>
    rintro k A B ⟨v, u, h⟩ kb
    exact ⟨v, u, h.turn cx kb⟩
  case hIx =>
    rintro q k A B h kb
    exact h
  case stop =>
    rintro c s W h _ _
    exact h.elim
  case done =>
    rintro k V hend ⟨v, u, h⟩ hv hK
    subst hend
    rw [List.take_length] at h
    have hf := fil_fold most ws [] []
    rw [List.nil_append] at hf
    have hb := stp_bd most 2200000 ws ([], []) hwl
    generalize ws.foldl (stp most) ([], []) = s at *
    obtain ⟨ls, md⟩ := s
    simp only at hf h hb
    have HF := Lib.hid (show res = ls ++ [md] by rw [HR.out]; exact hf)
    have H := Lib.hid h
    have hb4 : ls.length ≤ 4400001 := by have := hb.1; simp at this; omega
    have hcv := h.mo.rd.conv
    have hal := (Kept.refl V).alloc (.cells #[sV md] 9)
    have H3 := Lib.hid (h.kept hal)
    have hc3 := (Kept.refl (V.alloc (.cells #[sV md] 9))).new 0 (v := sV md) rfl
    have hsz3 := H3.out.sz
    have hKa := Lib.hid ((hal.block _ (Array.getElem?_eq_some_iff.1 hK).1).trans hK)
    have e1 := h.lb.c
    have e2 := h.mb.c
    obtain ⟨va, vc, hvv⟩ := own_slice h.lo
    obtain ⟨ua, uc, huv⟩ := own_slice h.mo
    subst hvv huv
    clear hf hb h H hv hal hK
    gi_wp2_with (gi_at_builtin; refine wpListIn_pushS rfl _ _ rfl W1.heap.size _ ls md V.heap.size rfl H3.out.lo rfl hc3 (by omega) hsz3 ?_)
    intro v4 y hy hgy
    have hKy := def_row H3.out.lo hgy hKa.out
    have Ky := kept_row H3.out.k hgy (fun g hg' => by have := (World.ownsRow.lt H3.out.lo g hg').1; have := cx.a1; have := cx.a2; have := cx.a3; omega)
    obtain ⟨va4, vc4, hv4⟩ := own_slice hy
    rw [List.length_append, List.length_singleton] at hv4
    subst hv4
    have HO := Lib.hid (own_mono (own_deferred hy hKy (.deferred none)) (show w.heap.size ≤ W1.heap.size by have := cx.a1; have := cx.a2; have := cx.a3; omega))
    have HK := Lib.hid (kept_put Ky (show w.heap.size ≤ W1.heap.size by have := cx.a1; have := cx.a2; have := cx.a3; omega) (.deferred none))
    clear hy hgy Ky e1 e2 hcv hc3 hsz3 H3
    gi_wp2
    refine ⟨by simp, .inl ⟨_, _, rfl, run_takeDeferred hKy, ?_⟩⟩
    exact ⟨.slice va4 (ls.length + 1) vc4, by simp [results, Tryz.results161, go_sem], _, rfl, by rw [HF.out]; exact HO.out, HK.out⟩
  case round =>
    rintro lo k arr k' V ⟨t, ht, rfl, rfl⟩ ⟨v, u, h⟩ hsz K hK
    have hb := stp_bd most 2200000 (ws.take k) ([], []) (fun z hz => hwl z (List.mem_of_mem_take hz))
    have HS := Lib.hid (stp_take (most := most) ht)
    have htl2 := hwl t (List.mem_of_getElem? ht)
    rw [List.length_take] at hb
    generalize (ws.take k).foldl (stp most) ([], []) = s at *
    obtain ⟨ls, md⟩ := s
    simp only at hb h
    have H := Lib.hid h
    clear h
    simp only [List.zip_toArray, List.zip_cons_cons, List.zip_nil_right, List.foldl_toArray, List.foldl_cons, List.foldl_nil, List.setIfInBounds_toArray, List.set_cons_zero, List.set_cons_succ]
    gi_wp2
    refine hK _ _ (Kept.refl V) (fun W2 v2 d2 => ?_)
    have H2 := Lib.hid (H.out.turn cx d2)
    clear H v2 d2 hK
    have hsz2 : W1.heap.size ≤ W2.heap.size := H2.out.sz
    obtain ⟨va, vc, hvv⟩ := own_slice H2.out.lo
    subst hvv
    have e0 := H2.out.m.c
    have a1 := cx.a1
    have a2 := cx.a2
    have a3 := cx.a3
    have hb1 := hb.1
    have hb2 := hb.2
    clear hb
    have hmn : min k ws.length ≤ 2200001 := by omega
    have hb3 : md.length ≤ 4840008000000 := by
      have q1 : min k ws.length * (2200000 + 1) ≤ 2200001 * (2200000 + 1) := Nat.mul_le_mul_right _ hmn
      have q2 : md.length ≤ min k ws.length * (2200000 + 1) := by rw [List.length_nil, Nat.zero_add] at hb2; exact hb2
      exact Nat.le_trans (Nat.le_trans q2 q1) (by decide)
    have hb4 : ls.length ≤ 2200001 := by simp at hb1; omega
    clear hb1 hb2
    by_cases hm0 : md = []
    · subst hm0
      obtain ⟨ua, uc, huv⟩ := own_slice H2.out.mo
      subst huv
      have HQ := Lib.hid (show stp most (ls, []) t = (ls, [] ++ t) by unfold stp; rw [if_neg (fun h => h.1 rfl)]; rfl)
      have e2 := H2.out.mb.c
      have hsz10 := H2.out.sz
      gi_wp2_with (gi_at_builtin; refine wpListIn_strB rfl _ _ rfl W1.heap.size _ [] t rfl H2.out.mo rfl (by simp; omega) hsz10 ?_)
      intro u9 y9 hy9 hg9
      obtain ⟨F9, S9⟩ := H2.out.setM cx (Nat.lt_succ_self _) hy9 hg9
      have F9 := Lib.hid F9
      have S9 := Lib.hid (S9)
      have g9 := bv_grown H2.out.mb hg9 (ub_of H2.out.mo _ (by omega))
      have e9 := g9.c
      have f9 := bv_frz g9
      obtain ⟨ua9, uc9, hu9⟩ := own_slice hy9
      subst hu9
      clear hy9 hg9 g9 e2
      gi_wp2
      exact ⟨S9.out, _, _, by rw [HS.out, HQ.out]; exact F9.out⟩
    · have hpos := List.length_pos_iff.2 hm0
      obtain ⟨g, cap, hgv, hcap, hcm⟩ := own_some H2.out.mo (by omega)
      subst hgv
      by_cases hlong : most < (md.length : Int) + 1 + t.length
      · have HQ := Lib.hid (show stp most (ls, md) t = (ls ++ [md], [] ++ t) by unfold stp; rw [if_pos ⟨hm0, hlong⟩]; rfl)
        have hcv := H2.out.mo.rd.conv
        have hal := (Kept.refl W2).alloc (.cells #[sV md] 9)
        have H3 := Lib.hid (H2.out.kept hal)
        have S3 := Lib.hid (Save.of_kept (Mf (SqT a b d) (w.heap.size + 1) (w.heap.size + 1 + 1) W1.heap.size) hal)
        have hc3 := (Kept.refl (W2.alloc (.cells #[sV md] 9))).new 0 (v := sV md) rfl
        have hsz3 := H3.out.sz
        have e1 := H2.out.lb.c
        have e2 := H2.out.mb.c
        clear hal hm0
        gi_upto_region 6 with (fail)
        gi_wp2_with (gi_at_builtin; refine wpListIn_pushS rfl _ _ rfl W1.heap.size _ ls md W2.heap.size rfl H3.out.lo rfl hc3 (by omega) hsz3 ?_)
        intro v4 y hy hgy
        obtain ⟨F4, S4⟩ := H3.out.pushL cx (Nat.lt_succ_self _) hy hgy
        have H4 := Lib.hid F4
        have S4' := Lib.hid (S3.out.trans S4)
        have g4 := bv_grown H3.out.lb hgy (ub_of H3.out.lo _ (by omega))
        have e4 := g4.c
        have f4 := bv_frz g4
        obtain ⟨va4, vc4, hv4⟩ := own_slice hy
        rw [show (ls ++ [md]).length = ls.length + 1 by simp] at hv4
        subst hv4
        clear hy hgy g4 e1 e2 S3 S4 F4 H2 hc3 hsz3 hcv
        gi_upto_region 7 with (fail)
        generalize y.setCell ⟨w.heap.size + 1, 0, none⟩ (.slice va4 (ls.length + 1) vc4) = z at *
        have e5 := H4.out.mb.c
        have f5 := bv_frz H4.out.mb
        obtain ⟨F5, S5⟩ := H4.out.setM cx (Nat.lt_succ_self _) (own_empty H4.out.mo) (grown_refl _ _)
        have H5 := Lib.hid F5
        have S5 := Lib.hid (S4'.out.trans S5)
        clear F5 S4' H4 e4 f4
        gi_upto_region 8 with (fail)
        generalize z.setCell ⟨w.heap.size + 1 + 1, 0, none⟩ (.slice (some ⟨g, 0, none⟩) 0 cap) = z2 at *
        clear e5 f5
        have e2 := H5.out.mb.c
        have hsz10 := H5.out.sz
        gi_wp2_with (gi_at_builtin; refine wpListIn_strB rfl _ _ rfl W1.heap.size _ [] t rfl H5.out.mo rfl (by simp; omega) hsz10 ?_)
        intro u9 y9 hy9 hg9
        obtain ⟨F9, S9⟩ := H5.out.setM cx (Nat.lt_succ_self _) hy9 hg9
        have F9 := Lib.hid F9
        have S9 := Lib.hid (S5.out.trans S9)
        have g9 := bv_grown H5.out.mb hg9 (ub_of H5.out.mo _ (by omega))
        have e9 := g9.c
        have f9 := bv_frz g9
        obtain ⟨ua9, uc9, hu9⟩ := own_slice hy9
        subst hu9
        clear hy9 hg9 g9 e2
        gi_wp2
        exact ⟨S9.out, _, _, by rw [HS.out, HQ.out]; exact F9.out⟩
      · have HQ := Lib.hid (show stp most (ls, md) t = (ls, md ++ 32 :: t) by unfold stp; rw [if_neg (fun h => hlong h.2), if_neg hm0]; simp)
        have hal := (Kept.refl W2).alloc (.cells #[.int .u8 (32 : UInt8).toNat] 5)
        have H3 := Lib.hid (H2.out.kept hal)
        have S3 := Lib.hid (Save.of_kept (Mf (SqT a b d) (w.heap.size + 1) (w.heap.size + 1 + 1) W1.heap.size) hal)
        have hc3 := (Kept.refl (W2.alloc (.cells #[.int .u8 (32 : UInt8).toNat] 5))).new 0 (v := .int .u8 (32 : UInt8).toNat) rfl
        have hsz3 := H3.out.sz
        have e2 := H2.out.mb.c
        clear hal hm0
        gi_upto_region 9 with (fail)
        gi_wp2_with (gi_at_builtin; refine wpListIn_byteB rfl _ _ rfl W1.heap.size _ md 32 W2.heap.size rfl H3.out.mo rfl hc3 (by omega) hsz3 ?_)
        intro u4 y hy hgy
        obtain ⟨F5, S5⟩ := H3.out.setM cx (Nat.lt_succ_self _) hy hgy
        have H5 := Lib.hid F5
        have S5 := Lib.hid (S3.out.trans S5)
        have g4 := bv_grown H3.out.mb hgy (ub_of H3.out.mo _ (by omega))
        have e4 := g4.c
        have f4 := bv_frz g4
        obtain ⟨ua4, uc4, hu4⟩ := own_slice hy
        rw [List.length_append, List.length_singleton] at hu4
        subst hu4
        clear hy hgy g4 e2 S3 F5 H2 hc3 hsz3 H3
        gi_upto_region 10 with (fail)
        generalize y.setCell ⟨w.heap.size + 1 + 1, 0, none⟩ (.slice ua4 (md.length + 1) uc4) = z2 at *
        clear e4 f4
        have e2 := H5.out.mb.c
        have hsz10 := H5.out.sz
        gi_wp2_with (gi_at_builtin; refine wpListIn_strB rfl _ _ rfl W1.heap.size _ (md ++ [32]) t rfl H5.out.mo rfl (by simp; omega) hsz10 ?_)
        intro u9 y9 hy9 hg9
        obtain ⟨F9, S9⟩ := H5.out.setM cx (Nat.lt_succ_self _) hy9 hg9
        have F9 := Lib.hid F9
        have S9 := Lib.hid (S5.out.trans S9)
        have g9 := bv_grown H5.out.mb hg9 (ub_of H5.out.mo _ (by omega))
        have e9 := g9.c
        have f9 := bv_frz g9
        obtain ⟨ua9, uc9, hu9⟩ := own_slice hy9
        subst hu9
        generalize (md ++ 32 :: t).length = n9 at *
        clear hy9 hg9 g9 e2
        gi_wp2
        exact ⟨S9.out, _, _, by rw [HS.out, HQ.out]; exact F9.out⟩
end Go.Proofs.YtjlpkgipdkjfhaaGreatDoor.Pl
namespace Go.Proofs.YtjlpkgipdkjfhaaGreatDoor.Pl
open Go.ChangeShapes Go.WideShapes Go.ChangeAt Go.RowKit Go.Shelf
open En
theorem opIn_of {n : Nat} {P : Program} {ops : Array Oper} {Q : Exit → Act → World → Prop} {l i : Nat} {K : Act → World → Prop} {a : Act} {w : World} (hL : ¬ LetsOut Q)
    (hd : ∀ (i : Nat) (o : Oper), ops[i]? = some o → ∀ c, o.op ≠ .defer c) (h : wpOp P ops Q i K a w) : wpOpIn (Fence.wide.inRound l) n P ops Q i K a w := by
  unfold wpOp at h
  unfold wpOpIn
  cases ho : ops[i]? with
  | none => simp only [ho] at h ⊢; exact h
  | some o =>
    simp only [ho] at h ⊢
    split
    · rename_i hw
      simp only [hw, if_true] at h
      have h := h.resolve_right (fun q => hL q.2)
      unfold Oper.wpIn
      unfold Oper.wp at h
      refine ⟨fun _ _ => trivial, ?_⟩
      rw [Oper.semAt_plain _ _ _ (hd i o ho)]
      generalize (execOp a.eval o).run P w = r at h ⊢
      cases r with
      | ok x w' =>
        cases x with
        | enter f args => exact ⟨(fun q => by cases q), CallsIn.inRound l (callsIn_wide.2 h)⟩
        | row r args => 
          refine ⟨(fun q => by cases q), fun c cs _ => ?_⟩
          obtain ⟨v, w2, hr, hs⟩ := h c cs
          exact ⟨v, w2, hr, stepsIn_wide.2 hs⟩
        | value v => exact h
        | skip => exact h
        | defer d => exact h
        | _ => exact h.elim
      | halt x w' => cases x <;> exact h
    · rename_i hw
      simp only [hw] at h
      exact ⟨fun _ _ => trivial, h⟩
theorem anyIn_of {n : Nat} {P : Program} {md : Region.Mode} {ops : Array Oper} {Q : Exit → Act → World → Prop} {l : Nat} (hL : ¬ LetsOut Q)
    (hd : ∀ (i : Nat) (o : Oper), ops[i]? = some o → ∀ c, o.op ≠ .defer c) : ∀ (fuel : Nat) (listed : Array Bool) (a : Act) (w : World), wpAny P md ops Q fuel listed a w → wpAnyIn (Fence.wide.inRound l) n P md ops Q fuel listed a w
  | 0, _, _, _, h => h
  | fuel + 1, _, _, _, h => ⟨h.1, fun i hi => wpOpIn_mono (fun a' w' q => anyIn_of hL hd fuel _ a' w' q) (opIn_of hL hd (h.2 i hi))⟩
def noDefer (l : List Oper) : Bool := l.all fun o => match o.op with | .defer _ => false | _ => true
theorem noDefer_of {l : List Oper} (h : noDefer l = true) : ∀ (i : Nat) (o : Oper), l.toArray[i]? = some o → ∀ c, o.op ≠ .defer c := fun i o ho c e => by
  have hm : o ∈ l := by
    simp only [List.getElem?_toArray] at ho
    exact List.mem_of_getElem? ho
  have := List.all_eq_true.1 h o hm
  rw [e] at this; cases this
theorem region_round {n id l₀ : Nat} {P : Program} {Q : Exit → Act → World → Prop} {a : Act} {w : World} {l : List Oper} (S : World → Prop) (hm : P.follows .mixedOrders = true) (hd : noDefer l = true) (hL : ¬ LetsOut Q) (hS : S w.drew)
    (h : S w.drew → wpAnyH P .any l.toArray Q S l.toArray.size (Array.replicate l.toArray.size false) a w.drew) : (Code.region id l.toArray true).wpIn (Fence.wide.inRound l₀) n P Q a w :=
  wpIn_region_any hm (anyIn_of hL (noDefer_of hd) _ _ _ _ (wpAny_of_held _ _ _ _ (h hS)))
theorem wp_pushM {op : Oper} {a : Act} {w : World} {K : Act → World → Prop} {Q : Exit → Act → World → Prop} (sx x : Operand) (ho : op.op = .call { callee := .builtin .append, args := #[sx, x], argTypes := #[42, 42] })
    (B0 B1 : Nat) (v vx : Value) (ls rs : List B) (hs : a.eval sx = v) (hO : OwnS B0 v ls w) (hx : a.eval x = vx) (hR : OwnS B1 vx rs w) (hne : rs ≠ []) (hl : ls.length + rs.length ≤ 8000000000000) (hB : B0 ≤ w.heap.size)
    (h : ∀ v' w', OwnS B0 v' (ls ++ rs) w' → w.grownBy w' v.ownBlock → K (a.put op.dst v') w') : op.wp Tryz.prog a w K Q := by
  obtain ⟨i0, hi, hz0, hz1, hz2⟩ := info_parts infoS
  obtain ⟨g, cap, rfl, hc⟩ := OutS.at (show OutS B1 vx rs w from hR) (List.length_pos_iff.2 hne)
  refine wp_append_own w sx x 42 ho B0 9 i0 _ 1 16 Tryz.underlying42 hi hz0 hz1 hz2 rfl (by decide) v ls.length (ls.map sV) hs hO ⟨g, 0, none⟩ rs.length cap (rs.map sV) hx (by simp) (fun j u hj => ?_) (fun u hu => ?_) (by unfold maxLen; omega) (by omega) hB ?_
  · rw [List.getElem?_map] at hj
    cases hj' : rs[j]? with
    | none => rw [hj'] at hj; cases hj
    | some p =>
      rw [hj'] at hj
      cases hj
      rw [Addr.add_lit, Nat.zero_add]
      exact hc j p hj'
  · obtain ⟨p, _, rfl⟩ := List.mem_map.1 hu; rfl
  · intro v' w' h2 h3 _
    refine h v' w' ?_ h3
    unfold OwnS
    rw [List.length_append, List.map_append]
    exact h2
end Go.Proofs.YtjlpkgipdkjfhaaGreatDoor.Pl
namespace Go.Proofs.YtjlpkgipdkjfhaaGreatDoor.Pl
open Go.ChangeShapes Go.WideShapes Go.ChangeAt Go.RowKit Go.Shelf
open En
attribute [local go_sem] Oper.semAt_some
structure WrI (h0 h1 n1 : Nat) (most : Int) (v : Value) (ls : List B) (w V : World) : Prop where
  m : Bv 3 h0 (iV most) V
  lb : Bv 42 h1 v V
  lo : OwnS n1 v ls V
  k : Kept w V
  sz : n1 ≤ V.heap.size
section
variable {h0 h1 n1 : Nat} {most : Int} {v : Value} {ls : List B} {w V : World} {T : Nat → Prop}
theorem WrI.kept {V' : World} (h : WrI h0 h1 n1 most v ls w V) (k : Kept V V') : WrI h0 h1 n1 most v ls w V' :=
  ⟨h.m.kept k, h.lb.kept k, OwnS.kept h.lo k, h.k.trans k, Nat.le_trans h.sz k.size⟩
theorem WrI.turn {h2 : Nat} {V' : World} (c : Cx w T h0 h1 h2 n1) (h : WrI h0 h1 n1 most v ls w V) (k : Save (Itn T n1) V V') : WrI h0 h1 n1 most v ls w V' := by
  have a1 := c.a1; have a2 := c.a2; have a3 := c.a3; have a0 := c.a0
  have no : ∀ j o, j ≤ h2 → ¬ Itn T n1 j o := fun j o hj q => by
    rcases q with q | q
    · exact c.no (Or.inl hj) q
    · omega
  refine ⟨bv_save h.m k (no _ _ (by omega)), bv_save h.lb k (no _ _ (by omega)), own_turn h.lo k (fun g cs hg q => ?_), ?_, Nat.le_trans h.sz k.size⟩
  · rcases q with q | q
    · exact c.no (Or.inr hg) q
    · cases q.2
  · refine ⟨k.os.trans h.k.os, k.output.trans h.k.output, Nat.le_trans h.k.size k.size, fun j hj => ?_, k.tape.trans h.k.tape⟩
    obtain ⟨ob, hob⟩ := at_some (A := V) (k := j) (Nat.lt_of_lt_of_le hj h.k.size)
    rw [k.block j ob hob (no j ob (by omega)), ← hob, h.k.block j hj]
theorem WrI.pushL {h2 : Nat} {y : World} {v' : Value} {rs : List B} (c : Cx w T h0 h1 h2 n1) (h : WrI h0 h1 n1 most v ls w V) (ho : OwnS n1 v' (ls ++ rs) y) (hg : V.grownBy y v.ownBlock) :
    WrI h0 h1 n1 most v' (ls ++ rs) w (y.setCell ⟨h1, 0, none⟩ v') ∧ Save (Mf T h1 h2 n1) V (y.setCell ⟨h1, 0, none⟩ v') := by
  have a1 := c.a1; have a2 := c.a2; have a3 := c.a3; have a0 := c.a0
  have ub := ub_of h.lo
  refine ⟨⟨bv_other (bv_grown h.m hg (ub _ (by omega))) (by omega) _ _, bv_set (bv_grown h.lb hg (ub _ (by omega))) _, own_set ho _ _ _ (by omega), ?_, ?_⟩, save_row hg (mf_row c h.lo) (mf_box c h.lb (Or.inl rfl))⟩
  · exact (kept_row h.k hg (fun g hg' => by have := (World.ownsRow.lt h.lo g hg').1; omega)).setCell (by simp only; omega) _
  · have := hg.size; have := h.sz; simp [World.setCell]; omega
end
theorem wrp_take {ts : List B} {k : Nat} {t : B} (f : B → List B) (h : ts[k]? = some t) : (ts.take (k + 1)).flatMap f = (ts.take k).flatMap f ++ f t := by
  rw [List.take_add_one, h, List.flatMap_append]; simp
theorem flat_bd (f : B → List B) (M : Nat) : ∀ (ts : List B), (∀ t ∈ ts, (f t).length ≤ M) → (ts.flatMap f).length ≤ ts.length * M
  | [], _ => by simp
  | t :: ts, h => by
    have h1 := h t (by simp)
    have h2 := flat_bd f M ts (fun x hx => h x (by simp [hx]))
    rw [List.flatMap_cons, List.length_append, List.length_cons, Nat.add_mul]; omega
theorem wds_len (l : B) : (wds l).length ≤ l.length + 1 := by
  have h1 := splt_len 32 (tr l)
  have h2 := tr_le l
  unfold wds; split
  · simp
  · omega
set_option maxRecDepth 100000 in
set_option maxHeartbeats 4000000 in
theorem wrap_any (l : B) (most : Int) (w : World) (hE : Env w) (hl : l.length ≤ 2200000) :
    Calls Tryz.prog 111 #[.string ⟨l.toArray⟩, .int .i64 most] w fun e w' => ∃ v, e = .returned v ∧ OwnS w.heap.size v (wrp most l) w' ∧ Kept w w' := by
  by_cases hm : most < 1
  · have HR := Lib.hid (show wrp most l = [] by unfold wrp; rw [if_pos hm])
    have b0 := Bv.new w (iV most) 3
    have k0 := (Kept.refl w).alloc (.cells #[iV most] 3)
    go_enter Tryz.func111, Tryz.ntmps111
    go_upto_region 1 with (fail)
    generalize w.alloc (.cells #[iV most] 3) = x0 at *
    have c0 := b0.c
    have K0 := Lib.hid k0
    clear k0 b0
    go_wp2
    go_ret
    exact ⟨_, rfl, by rw [HR.out]; exact World.ownsRow_nil _ _ _ _, K0.out⟩
  have HR := Lib.hid (show wrp most l = (splt 10 l).flatMap fun x => fil most (wds x) [] by unfold wrp; rw [if_neg hm])
  have HE := Lib.hid hE
  generalize wrp most l = res at *
  clear hE
  have b0 := Bv.new w (iV most) 3
  have k0 := (Kept.refl w).alloc (.cells #[iV most] 3)
  have s0 : (w.alloc (.cells #[iV most] 3)).heap.size = w.heap.size + 1 := by simp
  refine (callsIn_wide (n := 9)).1 ?_
  refine callsIn_of_wp_marks Tryz.func111 rfl trivial ?_ rfl
  simp only [Tryz.ntmps111, List.size_toArray, List.length_cons, List.length_nil, Nat.reduceAdd, Nat.reduceSub, Array.replicate_succ, Array.replicate_zero, List.push_toArray, List.append_toArray, List.nil_append, List.cons_append]
  gi_upto_region 1 with (fail)
  generalize w.alloc (.cells #[iV most] 3) = x0 at *
  have c0 := b0.c
  have b1 := Bv.new x0 (.slice none 0 0) 42
  have k1 := (Kept.refl x0).alloc (.cells #[.slice none 0 0] 42)
  have s1 : (x0.alloc (.cells #[.slice none 0 0] 42)).heap.size = x0.heap.size + 1 := by simp
  have b01 := b0.kept k1
  rw [s0] at b1 s1
  have K1 := k0.trans k1
  gi_upto_region 4 with (fail)
  generalize x0.alloc (.cells #[.slice none 0 0] 42) = x1 at *
  clear b0 k0 k1 s0 c0
  gi_wp2_with fail
  refine ⟨trivial, ?_⟩
  refine (callsIn_wide.2 (splitSeq_any 10 l _)).mono ?_
  rintro e W1 ⟨a, b, d, rfl, hC, k4, ⟨ha, hb, hd⟩, ⟨ha1, hb1, hd1⟩, hba, hbd⟩
  gi_wp2
  have hz4 := k4.size
  have cx : Cx w (SqT a b d) w.heap.size (w.heap.size + 1) (w.heap.size + 1) W1.heap.size :=
    ⟨Nat.le_refl _, by omega, by omega, by omega, fun k hk => by rcases hk with rfl | rfl | rfl <;> omega⟩
  have F0 : WrI w.heap.size (w.heap.size + 1) W1.heap.size most (.slice none 0 0) [] w W1 := ⟨b01.kept k4, b1.kept k4, World.ownsRow_nil _ _ _ _, K1.trans k4, Nat.le_refl _⟩
  clear b01 b1 K1 k4
  have hwl : ∀ t ∈ splt 10 l, t.length ≤ 2200000 := fun t ht => by have := (splt_mem l t ht).2; omega
  have hwn := splt_len 10 l
  have HIt := split_itr 10 l (by omega) a b d hba hbd
  have hfb : ∀ t ∈ splt 10 l, (fil most (wds t) []).length ≤ 2200002 := fun t ht => by
    have := hwl t ht
    have := wds_len t
    have := fil_len most (wds t) []
    omega
  generalize splt 10 l = ts at *
  refine range_itr (n := 9) (gf := 186) (lb := #[.pointer (some ⟨a, 0, none⟩), .pointer (some ⟨b, 0, none⟩), .pointer (some ⟨d, 0, none⟩)]) rfl (enters_of Tryz.func186 (by kernel_rfl) rfl) (T := SqT a b d) (fun k hk => (cx.t k hk).2)
    HIt (fun s arr s' hs => by obtain ⟨_, _, rfl, _⟩ := hs; rfl)
    (Mf (SqT a b d) (w.heap.size + 1) (w.heap.size + 1) W1.heap.size) (fun k o hk => ⟨hk.2.1, hk.1⟩) hC (fun A B k h => h.kept k)
    (fun k V => ∃ v, WrI w.heap.size (w.heap.size + 1) W1.heap.size most v ((ts.take k).flatMap fun x => fil most (wds x) []) w V)
    (fun _ _ _ => False)
    ?hI ?hIx ⟨_, F0⟩ ?round ?done ?stop
  case hI =>
    rintro k A B ⟨v, h⟩ kb
    exact ⟨v, h.turn cx kb⟩
  case hIx =>
    rintro q k A B h kb
    exact h
  case stop =>
    rintro c s W h _ _
    exact h.elim
  case done =>
    rintro k V hend ⟨v, h⟩ hv hK
    subst hend
    rw [List.take_length, ← HR.out] at h
    have e1 := h.lb.c
    obtain ⟨va, vc, hvv⟩ := own_slice h.lo
    have HO := Lib.hid (own_mono (own_deferred h.lo hK (.deferred none)) (show w.heap.size ≤ W1.heap.size by have := cx.a1; have := cx.a2; have := cx.a3; omega))
    have HK := Lib.hid (kept_put h.k (show w.heap.size ≤ W1.heap.size by have := cx.a1; have := cx.a2; have := cx.a3; omega) (.deferred none))
    subst hvv
    clear h hv
    gi_wp2
    refine ⟨by simp, .inl ⟨_, _, rfl, run_takeDeferred hK, ?_⟩⟩
    exact ⟨.slice va res.length vc, by simp [results, Tryz.results111, go_sem], _, rfl, HO.out, HK.out⟩
  case round =>
    rintro lo k arr k' V ⟨t, ht, rfl, rfl⟩ ⟨v, h⟩ hsz K hK
    have HS := Lib.hid (wrp_take (fun x => fil most (wds x) []) ht)
    have htm := List.mem_of_getElem? ht
    have htl := hwl t htm
    have htf := hfb t htm
    have hlb := flat_bd (fun x => fil most (wds x) []) 2200002 (ts.take k) (fun x hx => hfb x (List.mem_of_mem_take hx))
    have hne := fil_ne most t
    have HFl := Lib.hid (fun w hE => filled_any t most w hE htl)
    rw [List.length_take] at hlb
    generalize (ts.take k).flatMap (fun x => fil most (wds x) []) = ls at *
    generalize fil most (wds t) [] = rs at *
    have H := Lib.hid h
    have hlb2 : ls.length + rs.length ≤ 8000000000000 := by
      have q1 : min k ts.length * 2200002 ≤ 2200001 * 2200002 := Nat.mul_le_mul_right _ (by omega)
      have q2 : ls.length ≤ 2200001 * 2200002 := Nat.le_trans hlb q1
      have q3 : 2200001 * 2200002 ≤ 5000000000000 := by decide
      omega
    clear h hlb ht htm
    simp only [List.zip_toArray, List.zip_cons_cons, List.zip_nil_right, List.foldl_toArray, List.foldl_cons, List.foldl_nil, List.setIfInBounds_toArray, List.set_cons_zero, List.set_cons_succ]
    gi_wp2
    refine hK _ _ (Kept.refl V) (fun W2 v2 d2 => ?_)
    have H2 := Lib.hid (H.out.turn cx d2)
    clear H hK v2 d2
    obtain ⟨va, vc, hvv⟩ := own_slice H2.out.lo
    subst hvv
    gi_upto_region 6 with (fail)
    have e0 := H2.out.m.c
    have e1 := H2.out.lb.c
    have KD := (Kept.refl W2).drew
    have HD := Lib.hid (H2.out.kept KD)
    have SD := Lib.hid (Save.of_kept (Mf (SqT a b d) (w.heap.size + 1) (w.heap.size + 1) W1.heap.size) KD)
    have ED := Lib.hid (HE.out.kept HD.out.k)
    refine region_round (fun y => y.cell? ⟨w.heap.size, 0, none⟩ = some (iV most)) (by kernel_rfl) (by rfl) (fun ⟨_, _, h⟩ => h) e0 (fun hS0 => ?_)
    have e1' : W2.drew.cell? ⟨w.heap.size + 1, 0, none⟩ = some (.slice va ls.length vc) := e1
    clear e0 e1 KD H2
    generalize W2.drew = W3 at *
    refine wpAnyH_take (i := 1) (oi := { dst := some 13, op := Go.Op.move (Go.Operand.tmp 6), type := 9, pos := "plain.go:28", after := #[], guard := none }) (v := ?vb1) rfl (by kernel_rfl) (by kernel_rfl) (by kernel_rfl) (fun _ _ _ h => h) (Or.inl ⟨by rfl, ?yb1⟩) (by assumption) ?rb1
    case yb1 => (intro wq hSw; (try dsimp only at hSw); go_simp; try with_reducible rfl)
    simp only [Act.put, List.setIfInBounds_toArray, List.set_cons_zero, List.set_cons_succ]
    refine wpAnyH_take (i := 2) (oi := { dst := some 14, op := Go.Op.load 3 (Go.Operand.tmp 3), type := 3, pos := "plain.go:28", after := #[], guard := none }) (v := ?vb2) rfl (by kernel_rfl) (by kernel_rfl) (by kernel_rfl) (fun _ _ _ h => h) (Or.inl ⟨by rfl, ?yb2⟩) (by assumption) ?rb2
    case yb2 => (intro wq hSw; (try dsimp only at hSw); go_simp; try with_reducible rfl)
    simp only [Act.put, List.setIfInBounds_toArray, List.set_cons_zero, List.set_cons_succ]
    refine wpAnyH_ready (rs := [0, 3]) (by kernel_rfl) (by simp) (AllReadyH.cons (o := { dst := some 12, op := Go.Op.load 42 (Go.Operand.tmp 5), type := 42, pos := "plain.go:28", after := #[], guard := none }) rfl (fun K hK => ?_) (AllReadyH.cons (o := { dst := some 15, op := Go.Op.call { callee := Go.Callee.value (Go.Operand.func 161), args := #[Go.Operand.tmp 13, Go.Operand.tmp 14], argTypes := #[9, 3] }, type := 42, pos := "plain.go:28", after := #[{ on := 1, ground := Go.Ground.data }, { on := 2, ground := Go.Ground.data }], guard := none }) rfl (fun K hK => ?_) AllReadyH.nil))
    · have ld := e1'
      go_simp
      refine Shut.out hK _ _ hS0 (fun hSb => ?_)
      clear hK K
      try simp only [Act.put, List.setIfInBounds_toArray, List.set_cons_zero, List.set_cons_succ]
      clear ld
      refine wpAnyH_ready (rs := [3]) (by kernel_rfl) (by simp) (AllReadyH.cons (o := { dst := some 15, op := Go.Op.call { callee := Go.Callee.value (Go.Operand.func 161), args := #[Go.Operand.tmp 13, Go.Operand.tmp 14], argTypes := #[9, 3] }, type := 42, pos := "plain.go:28", after := #[{ on := 1, ground := Go.Ground.data }, { on := 2, ground := Go.Ground.data }], guard := none }) rfl (fun K hK => ?_) AllReadyH.nil)
      go_simp
      refine (HFl.out _ ED.out).mono ?_
      rintro e W4 ⟨vx, rfl, hvx, k4⟩
      have H4 := Lib.hid (HD.out.kept k4)
      have S4 := Lib.hid (SD.out.trans (Save.of_kept _ k4))
      refine Shut.out hK _ _ H4.out.m.c (fun hSb => ?_)
      clear hK K
      try simp only [Act.put, List.setIfInBounds_toArray, List.set_cons_zero, List.set_cons_succ]
      have e4 : W4.cell? ⟨w.heap.size + 1, 0, none⟩ = some (.slice va ls.length vc) := H4.out.lb.c
      clear k4
      refine wpAnyH_ready (rs := [4]) (by kernel_rfl) (by simp) (AllReadyH.cons (o := { dst := some 16, op := Go.Op.call { callee := Go.Callee.builtin Go.Builtin.append, args := #[Go.Operand.tmp 12, Go.Operand.tmp 15], argTypes := #[42, 42] }, type := 42, pos := "plain.go:28", after := #[{ on := 0, ground := Go.Ground.data }, { on := 3, ground := Go.Ground.data }, { on := 3, ground := Go.Ground.chain }], guard := none }) rfl (fun K hK => ?_) AllReadyH.nil)
      rw [if_pos (by rfl)]
      refine wp_pushM (.tmp 12) (.tmp 15) rfl W1.heap.size W3.heap.size (.slice va ls.length vc) vx ls rs (by rfl) H4.out.lo (by rfl) hvx hne hlb2 H4.out.sz ?_
      intro v5 y hy hgy
      obtain ⟨F5, S5⟩ := H4.out.pushL cx hy hgy
      have H5 := Lib.hid F5
      have S5 := Lib.hid (S4.out.trans S5)
      have m5 := (bv_grown H4.out.m hgy (ub_of H4.out.lo _ (by have := cx.a1; have := cx.a2; have := cx.a3; omega))).c
      have g5 := bv_grown H4.out.lb hgy (ub_of H4.out.lo _ (by have := cx.a1; have := cx.a2; have := cx.a3; omega))
      have l5 := g5.c
      have f5 := bv_frz g5
      refine Shut.out hK _ _ m5 (fun hSb => ?_)
      clear hK K
      try simp only [Act.put, List.setIfInBounds_toArray, List.set_cons_zero, List.set_cons_succ]
      obtain ⟨va5, vc5, hv5⟩ := own_slice hy
      subst hv5
      clear hy hgy g5 F5
      generalize (ls ++ rs).length = n5 at *
      refine wpAnyH_ready (rs := [5]) (by kernel_rfl) (by simp) (AllReadyH.cons (o := { dst := none, op := Go.Op.store 42 (Go.Operand.tmp 5) (Go.Operand.tmp 16), type := 0, pos := "plain.go:28", after := #[{ on := 4, ground := Go.Ground.data }, { on := 4, ground := Go.Ground.chain }, { on := 0, ground := Go.Ground.phase }, { on := 1, ground := Go.Ground.phase }, { on := 2, ground := Go.Ground.phase }, { on := 3, ground := Go.Ground.phase }, { on := 4, ground := Go.Ground.phase }], guard := none }) rfl (fun K hK => ?_) AllReadyH.nil)
      go_simp
      refine Shut.out hK _ _ H5.out.m.c (fun hSb => ?_)
      clear hK K
      try simp only [Act.put, List.setIfInBounds_toArray, List.set_cons_zero, List.set_cons_succ]
      refine wpAnyH_done (by kernel_rfl) ?_ _
      exact ⟨S5.out, _, by rw [HS.out]; exact H5.out⟩
    · go_simp
      refine (HFl.out _ ED.out).mono ?_
      rintro e W4 ⟨vx, rfl, hvx, k4⟩
      have H4 := Lib.hid (HD.out.kept k4)
      have S4 := Lib.hid (SD.out.trans (Save.of_kept _ k4))
      refine Shut.out hK _ _ H4.out.m.c (fun hSb => ?_)
      clear hK K
      try simp only [Act.put, List.setIfInBounds_toArray, List.set_cons_zero, List.set_cons_succ]
      have e4 : W4.cell? ⟨w.heap.size + 1, 0, none⟩ = some (.slice va ls.length vc) := H4.out.lb.c
      clear k4
      have ld := e4
      refine wpAnyH_ready (rs := [0]) (by kernel_rfl) (by simp) (AllReadyH.cons (o := { dst := some 12, op := Go.Op.load 42 (Go.Operand.tmp 5), type := 42, pos := "plain.go:28", after := #[], guard := none }) rfl (fun K hK => ?_) AllReadyH.nil)
      go_simp
      refine Shut.out hK _ _ H4.out.m.c (fun hSb => ?_)
      clear hK K
      try simp only [Act.put, List.setIfInBounds_toArray, List.set_cons_zero, List.set_cons_succ]
      clear ld
      refine wpAnyH_ready (rs := [4]) (by kernel_rfl) (by simp) (AllReadyH.cons (o := { dst := some 16, op := Go.Op.call { callee := Go.Callee.builtin Go.Builtin.append, args := #[Go.Operand.tmp 12, Go.Operand.tmp 15], argTypes := #[42, 42] }, type := 42, pos := "plain.go:28", after := #[{ on := 0, ground := Go.Ground.data }, { on := 3, ground := Go.Ground.data }, { on := 3, ground := Go.Ground.chain }], guard := none }) rfl (fun K hK => ?_) AllReadyH.nil)
      rw [if_pos (by rfl)]
      refine wp_pushM (.tmp 12) (.tmp 15) rfl W1.heap.size W3.heap.size (.slice va ls.length vc) vx ls rs (by rfl) H4.out.lo (by rfl) hvx hne hlb2 H4.out.sz ?_
      intro v5 y hy hgy
      obtain ⟨F5, S5⟩ := H4.out.pushL cx hy hgy
      have H5 := Lib.hid F5
      have S5 := Lib.hid (S4.out.trans S5)
      have m5 := (bv_grown H4.out.m hgy (ub_of H4.out.lo _ (by have := cx.a1; have := cx.a2; have := cx.a3; omega))).c
      have g5 := bv_grown H4.out.lb hgy (ub_of H4.out.lo _ (by have := cx.a1; have := cx.a2; have := cx.a3; omega))
      have l5 := g5.c
      have f5 := bv_frz g5
      refine Shut.out hK _ _ m5 (fun hSb => ?_)
      clear hK K
      try simp only [Act.put, List.setIfInBounds_toArray, List.set_cons_zero, List.set_cons_succ]
      obtain ⟨va5, vc5, hv5⟩ := own_slice hy
      subst hv5
      clear hy hgy g5 F5
      generalize (ls ++ rs).length = n5 at *
      refine wpAnyH_ready (rs := [5]) (by kernel_rfl) (by simp) (AllReadyH.cons (o := { dst := none, op := Go.Op.store 42 (Go.Operand.tmp 5) (Go.Operand.tmp 16), type := 0, pos := "plain.go:28", after := #[{ on := 4, ground := Go.Ground.data }, { on := 4, ground := Go.Ground.chain }, { on := 0, ground := Go.Ground.phase }, { on := 1, ground := Go.Ground.phase }, { on := 2, ground := Go.Ground.phase }, { on := 3, ground := Go.Ground.phase }, { on := 4, ground := Go.Ground.phase }], guard := none }) rfl (fun K hK => ?_) AllReadyH.nil)
      go_simp
      refine Shut.out hK _ _ H5.out.m.c (fun hSb => ?_)
      clear hK K
      try simp only [Act.put, List.setIfInBounds_toArray, List.set_cons_zero, List.set_cons_succ]
      refine wpAnyH_done (by kernel_rfl) ?_ _
      exact ⟨S5.out, _, by rw [HS.out]; exact H5.out⟩
end Go.Proofs.YtjlpkgipdkjfhaaGreatDoor.Pl
