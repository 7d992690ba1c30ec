/- Package head: the words of a text, told to a range over a function; all of them. -/
import Derived.Test.YtdhhlcgmkkpldaaGreatDoorHdWd
import Derived.Test.YtdhhlcgmkkpldaaGreatDoorBxR
set_option linter.unusedSimpArgs false
set_option linter.unusedVariables false
namespace Go.Proofs.YtdhhlcgmkkpldaaGreatDoor.Hd
open Go.ChangeShapes Go.WideShapes Go.ChangeAt Go.RowKit Go.Shelf
open Bx (raw)
attribute [local go_sem] Oper.semAt_some
theorem code_len (p : B) (h : p.length ≤ 45) : (code p).length ≤ 72 ∧ 12 ≤ (code p).length := by
  have := Bx.raw_len p
  unfold code
  simp only [List.length_append, this, opn, cls, List.length_cons, List.length_nil]
  omega
theorem cod_step {s r : B} {k : Nat} (h : cod r = (cod s).drop k) (hr : r ≠ []) : (cod s)[k]? = some (code (r.take (prt r))) ∧ cod (r.drop (prt r)) = (cod s).drop (k + 1) := by
  rw [cod_more hr] at h
  constructor
  · have h1 : ((cod s).drop k)[0]? = some (code (r.take (prt r))) := by rw [← h]; rfl
    rwa [List.getElem?_drop, Nat.add_zero] at h1
  · rw [← List.tail_drop, ← h]; rfl
set_option maxRecDepth 100000 in
set_option maxHeartbeats 4000000 in
theorem coded_itr (s : B) (hl : s.length ≤ 1000000) (b : Nat) :
    Itr Tryz.prog 54 #[.pointer (some ⟨b, 0, none⟩)] (seqS (cod s)) (fun k => k = (cod s).length) 0 (fun _ => False) RdE (fun W => Bv 9 b (sV s) W) := by
  intro nn ll M J Jx W hcap hM hJ hJx hY h0
  have HM := Lib.hid hM; have HJ := Lib.hid hJ; have HJX := Lib.hid hJx; have HY := Lib.hid hY; have H0 := Lib.hid h0
  have ca := hcap.c
  clear hcap hM hJ hJx hY h0
  refine callsIn_wide.2 ((callsIn_wide (n := 5)).1 ?_)
  refine callsIn_of_wp Tryz.func54 rfl trivial ?_ rfl
  simp only [Tryz.ntmps54, List.size_toArray, List.length_cons, List.length_nil, Nat.reduceAdd, Nat.reduceSub, Array.replicate_succ, Array.replicate_zero, List.push_toArray, List.append_toArray, List.nil_append, List.cons_append]
  gi_wp2
  gi_loopw [3, 4] (fun v3 _ wr => ∃ (k : Nat) (r : B), v3 = sV r ∧ Hid (cod r = (cod s).drop k) ∧ k ≤ (cod s).length ∧ r.length ≤ s.length ∧ Hid (J k wr) ∧ Hid (Save (fun k o => M k o ∨ False) W wr)) (fun v3 _ _ => match v3 with | .string x => x.size | _ => 0)
  case atStart => exact ⟨0, s, rfl, Lib.hid rfl, Nat.zero_le _, Nat.le_refl _, H0, Lib.hid (Save.refl _ _)⟩
  case round =>
    clear ca
    obtain ⟨k, r, rfl, hS, hk, hrl, hj, hv⟩ := hrel
    have hsz : (ByteArray.mk r.toArray).size = r.length := List.size_toArray
    by_cases he : r = []
    · subst he
      have HE := Lib.hid (show k = (cod s).length by
        have h := hS.out
        rw [cod_nil] at h
        have := List.drop_eq_nil_iff.1 h.symm
        omega)
      clear hS
      gi_wp2
      go_end0
      exact ⟨⟨_, rfl⟩, hv.out, .inl ⟨_, HE.out, hj.out⟩⟩
    · have hte : r.isEmpty = false := by cases r with
        | nil => exact absurd rfl he
        | cons a t => rfl
      obtain ⟨h1, h2⟩ := cod_step hS.out he
      have hp1 := prt_pos he
      have hp2 := prt_45 r
      have hp3 := prt_le r
      have HP := Lib.hid (part_any r wr (by unfold maxLen; omega))
      have hct := cut_to r (prt r) hp3
      have hcf := cut_from r (prt r) (prt r) rfl hp3
      have hrn : (r.drop (prt r)).length < r.length := by simp; omega
      obtain ⟨cp, w1, hcv, hk1, hR1⟩ := to_bytes (r.take (prt r)) wr
      have hpl : (r.take (prt r)).length ≤ 45 := by simp; omega
      have HRw := Lib.hid (raw_any _ (r.take (prt r)) w1 hR1 (by omega))
      have hrl2 := Bx.raw_len (r.take (prt r))
      have hrl3 : (raw (r.take (prt r))).length ≤ 60 := by rw [hrl2]; omega
      rw [show code (r.take (prt r)) = (opn ++ raw (r.take (prt r))) ++ cls by unfold code; rw [List.append_assoc]] at h1
      have happ1 : (⟨#[61, 63, 117, 116, 102, 45, 56, 63, 66, 63]⟩ ++ ⟨(raw (r.take (prt r))).toArray⟩ : ByteArray) = ⟨(opn ++ raw (r.take (prt r))).toArray⟩ := app_mk opn _
      have happ2 : (⟨(opn ++ raw (r.take (prt r))).toArray⟩ ++ ⟨#[63, 61]⟩ : ByteArray) = ⟨((opn ++ raw (r.take (prt r))) ++ cls).toArray⟩ := app_mk _ cls
      have hl1 : (opn ++ raw (r.take (prt r))).length ≤ 70 := by rw [List.length_append]; have : opn.length = 10 := rfl; omega
      have HT := Lib.hid h1
      have HN := Lib.hid h2
      clear h1 h2 hS he hrl2 hR1
      generalize prt r = n at *
      generalize r.take n = p at *
      generalize (opn ++ raw p) ++ cls = cw at *
      generalize opn ++ raw p = c1 at *
      generalize raw p = rp at *
      generalize r.drop n = q at *
      gi_wp2_with fail
      refine ⟨trivial, ?_⟩
      refine (callsIn_wide.2 HP.out).mono ?_
      rintro e w2 ⟨rfl, rfl⟩
      gi_wp2_with fail
      refine ⟨trivial, ?_⟩
      refine (callsIn_wide.2 HRw.out).mono ?_
      rintro e w3 ⟨rfl, k3⟩
      have KK := hk1.trans k3
      have JZ := Lib.hid (HJ.out k w2 w3 hj.out (Save.of_kept _ KK))
      have VZ := Lib.hid (hv.out.trans (Save.of_kept _ KK))
      obtain ⟨fn, tmps, assign, body, hy, hRr⟩ := yield_any (m := 4) (HY.out k #[sV cw] (k + 1) w3 ⟨cw, HT.out, rfl, rfl⟩ JZ.out)
      clear hcv hk1 k3 KK HP HRw hj hv
      gi_wp2
      refine hRr.mono ?_
      rintro e W3 ⟨v3, ⟨rfl, j3⟩ | ⟨rfl, j3⟩⟩
      · have V3 := Lib.hid (VZ.out.trans (v3.mono (fun _ _ _ h => Or.inl h)))
        have JN := Lib.hid j3
        clear hRr hy v3 VZ JZ
        have hkl : k + 1 ≤ (cod s).length := (List.getElem?_eq_some_iff.1 HT.out).1
        gi_wp2
        exact ⟨⟨k + 1, q, rfl, HN, hkl, by omega, JN, V3⟩, by show (ByteArray.mk q.toArray).size < (ByteArray.mk r.toArray).size; rw [str_lit, str_lit]; exact hrn⟩
      · have V3 := Lib.hid (VZ.out.trans (v3.mono (fun _ _ _ h => Or.inl h)))
        clear hRr hy v3
        gi_wp2
        exact bodyPost_ret (results_none rfl _ _ _) rfl ⟨⟨_, rfl⟩, V3.out, .inr ⟨_, j3⟩⟩
/-- a function to range over: the texts that it tells -/
def SeqV (B0 : Nat) (v : Value) (ws : List B) (w : World) : Prop :=
  ∃ (gf : Nat) (lb : Array Value) (T : Nat → Prop) (cap : World → Prop), v = .func (.func gf) #[] lb ∧ (∀ args w, (callFunc gf args).run Tryz.prog w = .ok (.enter gf args) w) ∧ Itr Tryz.prog gf lb (seqS ws) (fun k => k = ws.length) 0 T RdE cap ∧ cap w ∧ (∀ A B, Kept A B → cap A → cap B) ∧ (∀ k, T k → B0 ≤ k ∧ k < w.heap.size)
theorem SeqV.kept {B0 : Nat} {v : Value} {ws : List B} {w w' : World} (h : SeqV B0 v ws w) (k : Kept w w') : SeqV B0 v ws w' := by
  obtain ⟨gf, lb, T, cap, h1, h2, h3, h4, h5, h6⟩ := h
  exact ⟨gf, lb, T, cap, h1, h2, h3, h5 _ _ k h4, h5, fun j hj => ⟨(h6 j hj).1, Nat.lt_of_lt_of_le (h6 j hj).2 k.size⟩⟩
theorem coded_any (s : B) (w : World) (hl : s.length ≤ 1000000) : Calls Tryz.prog 37 #[sV s] w fun e w' => ∃ v, e = .returned v ∧ SeqV w.heap.size v (cod s) w' ∧ Kept w w' := by
  have k0 := (Kept.refl w).alloc (.cells #[sV s] 9)
  have b0 := Bv.new w (sV s) 9
  have s0 : (w.alloc (.cells #[sV s] 9)).heap.size = w.heap.size + 1 := by simp
  go_enter Tryz.func37, Tryz.ntmps37
  go_upto_region 1 with (fail)
  generalize w.alloc (.cells #[sV s] 9) = x at *
  go_wp2
  go_ret
  exact ⟨_, rfl, ⟨54, _, _, _, rfl, enters_of Tryz.func54 (by kernel_rfl) rfl, coded_itr s hl w.heap.size, b0, fun A B k h => h.kept k, fun _ h => h.elim⟩, k0⟩
theorem splits_any (s : B) (w : World) (hE : Env w) (hl : s.length ≤ 1000000) : Calls Tryz.prog 24 #[sV s, .string ⟨#[32]⟩] w fun e w' => ∃ v, e = .returned v ∧ SeqV w.heap.size v (splt 32 s) w' ∧ Kept w w' := by
  refine (splitSeq_any [32] s w hE (by decide) (by decide)).mono ?_
  rintro e w' ⟨a, b, d, rfl, hC, k4, ⟨ha, hb, hd⟩, ⟨ha1, hb1, hd1⟩, hba, hbd⟩
  have HIt := split_itr [32] s (by decide) (by decide) (by omega) a b d hba hbd
  rw [spl_one 32 _ s (Nat.le_refl _)] at HIt
  exact ⟨_, rfl, ⟨57, _, _, _, rfl, enters_of Tryz.func57 (by kernel_rfl) rfl, HIt, hC, fun A B k h => h.kept k, fun k hk => by rcases hk with rfl | rfl | rfl <;> exact ⟨by assumption, by assumption⟩⟩, k4⟩
theorem words_any (s : B) (w : World) (hE : Env w) (hl : s.length ≤ 1000000) : Calls Tryz.prog 23 #[sV s] w fun e w' => ∃ v, e = .returned v ∧ SeqV w.heap.size v (wds s) w' ∧ Kept w w' := by
  have HP := Lib.hid (plain_any s w hE hl)
  have HE := Lib.hid hE
  have HS := Lib.hid (fun w hE => splits_any s w hE hl)
  have HC := Lib.hid (fun w => coded_any s w hl)
  have HW := Lib.hid (show wds s = if pln s = true then splt 32 s else cod s from rfl)
  clear hE
  generalize wds s = ws at *
  generalize splt 32 s = w1 at *
  generalize cod s = w2 at *
  cases hp : pln s with
  | true =>
    rw [hp] at HP HW
    have HZ := Lib.hid (HW.out.trans (if_pos rfl))
    go_enter Tryz.func23, Tryz.ntmps23
    go_wp2_with fail
    refine HP.out.mono ?_
    rintro e x1 ⟨rfl, k1⟩
    go_wp2_with fail
    refine (HS.out x1 (HE.out.kept k1)).mono ?_
    rintro e x2 ⟨v, rfl, hv, k2⟩
    have hv2 : SeqV w.heap.size v ws x2 := by
      obtain ⟨gf, lb, T, cap, h1, h2, h3, h4, h5, h6⟩ := hv
      rw [HZ.out]
      exact ⟨gf, lb, T, cap, h1, h2, h3, h4, h5, fun k hk => ⟨Nat.le_trans k1.size (h6 k hk).1, (h6 k hk).2⟩⟩
    have HV := Lib.hid hv2
    have KK := Lib.hid (k1.trans k2)
    clear hv hv2 k1 k2
    go_wp2
    go_ret
    exact ⟨_, rfl, HV.out, KK.out⟩
  | false =>
    rw [hp] at HP HW
    have HZ := Lib.hid (HW.out.trans (if_neg (by decide)))
    go_enter Tryz.func23, Tryz.ntmps23
    go_wp2_with fail
    refine HP.out.mono ?_
    rintro e x1 ⟨rfl, k1⟩
    go_wp2_with fail
    refine (HC.out x1).mono ?_
    rintro e x2 ⟨v, rfl, hv, k2⟩
    have hv2 : SeqV w.heap.size v ws x2 := by
      obtain ⟨gf, lb, T, cap, h1, h2, h3, h4, h5, h6⟩ := hv
      rw [HZ.out]
      exact ⟨gf, lb, T, cap, h1, h2, h3, h4, h5, fun k hk => ⟨Nat.le_trans k1.size (h6 k hk).1, (h6 k hk).2⟩⟩
    have HV := Lib.hid hv2
    have KK := Lib.hid (k1.trans k2)
    clear hv hv2 k1 k2
    go_wp2
    go_ret
    exact ⟨_, rfl, HV.out, KK.out⟩
end Go.Proofs.YtdhhlcgmkkpldaaGreatDoor.Hd
