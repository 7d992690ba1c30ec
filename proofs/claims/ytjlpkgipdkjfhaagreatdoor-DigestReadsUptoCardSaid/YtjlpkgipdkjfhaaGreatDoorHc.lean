import Derived.Test.YtjlpkgipdkjfhaaGreatDoorHz
import Derived.Sort.CutIn
import Derived.Test.YtjlpkgipdkjfhaaGreatDoorHx
set_option linter.unusedVariables false
set_option linter.unusedSimpArgs false
namespace Go.Proofs.YtjlpkgipdkjfhaaGreatDoor.Bk.Hd
open Go.ChangeShapes Go.WideShapes Go.ChangeAt Go.RowKit Go.Shelf
open Bx (raw)
attribute [local go_sem] Oper.semAt_some
theorem contains_any (s t : B) (w : World) (hE : Env w) (hs : s.length ≤ 4000000000) : Calls Tryz.prog 208 #[sV s, sV t] w fun e w' => e = .returned (.bool (Lib.contains s t)) ∧ w' = w := by
  obtain ⟨m, hm⟩ := hE
  have hsz : (ByteArray.mk s.toArray).size = s.length := List.size_toArray
  exact Tryz.strings_Contains ⟨s.toArray⟩ ⟨t.toArray⟩ m w (by omega) hm
theorem pln_rng {s : B} {k : Nat} {x : UInt8} (hx : s[k]? = some x) (h : rng x = false) : pln s = false := by
  unfold pln
  rw [Bool.and_eq_false_iff]
  exact Or.inl (by rw [List.all_eq_false]; exact ⟨x, List.mem_of_getElem? hx, by rw [h]; decide⟩)
theorem pln_bad {s : B} {k : Nat} {x : B} (hx : (splt 32 s)[k]? = some x) (h : okw x = false) : pln s = false := by
  unfold pln
  rw [Bool.and_eq_false_iff]
  exact Or.inr (by rw [List.all_eq_false]; exact ⟨x, List.mem_of_getElem? hx, by rw [h]; decide⟩)
theorem alls_take {p : B → Bool} {s : List B} {k : Nat} {x : B} (h : ∀ j y, j < k → s[j]? = some y → p y = true) (hx : s[k]? = some x) (hp : p x = true) : ∀ j y, j < k + 1 → s[j]? = some y → p y = true := by
  intro j y hj hy
  by_cases q : j = k
  · subst q; rw [hx] at hy; cases hy; exact hp
  · exact h j y (by omega) hy
theorem alls_end {p : B → Bool} {s : List B} (h : ∀ j y, j < s.length → s[j]? = some y → p y = true) : s.all p = true := by
  rw [List.all_eq_true]
  intro x hx
  obtain ⟨i, hi, rfl⟩ := List.mem_iff_getElem.1 hx
  exact h i _ hi (List.getElem?_eq_getElem hi)
structure PlI (r : Nat) (w V : World) : Prop where
  r : Bv 4 r (.bool false) V
  k : Kept w V
  e : Env V
theorem PlI.turn {r n1 : Nat} {w V V' : World} {T : Nat → Prop} (h : PlI r w V) (hE : Env w) (k : Save (Itn T n1) V V') (h0 : w.heap.size ≤ r) (h1 : r < n1) (hT : ∀ k, T k → r < k) : PlI r w V' := by
  have no : ∀ j o, j ≤ r → ¬ Itn T n1 j o := fun j o hj q => by
    rcases q with q | q
    · have := hT j q; omega
    · omega
  exact ⟨h.r.save k (no _ _ (Nat.le_refl _)), Save.kept_of h.k k (fun j o hj => no j o (by omega)), env_save h.e k (fun o => no _ o (by have := env_lt hE; omega))⟩
set_option maxRecDepth 100000 in
set_option maxHeartbeats 4000000 in
theorem plain_any (s : B) (w : World) (hE : Env w) (hl : s.length ≤ 1000000) :
    Calls Tryz.prog 154 #[sV s] w fun e w' => e = .returned (.bool (pln s)) ∧ Kept w w' := by
  have hs : (ByteArray.mk s.toArray).size = s.length := List.size_toArray
  have b0 := Bv.new w (.bool false) 4
  have k0 := (Kept.refl w).alloc (.cells #[.bool false] 4)
  have s0 : (w.alloc (.cells #[.bool false] 4)).heap.size = w.heap.size + 1 := by simp
  have HE := Lib.hid hE
  clear hE
  refine (callsIn_wide (n := 9)).1 ?_
  refine callsIn_of_wp_marks Tryz.func154 rfl trivial ?_ rfl
  simp only [Tryz.ntmps154, List.size_toArray, List.length_cons, List.length_nil, Nat.reduceAdd, Nat.reduceSub, Array.replicate_succ, Array.replicate_zero, List.push_toArray, List.append_toArray, List.nil_append, List.cons_append]
  gi_upto_region 1 with (fail)
  generalize w.alloc (.cells #[.bool false] 4) = x0 at *
  obtain ⟨cp, x1, hcv, hk1, hR1⟩ := to_bytes s x0
  rw [s0] at hcv hR1
  have HR := Lib.hid hR1
  have P1 := Lib.hid (show PlI w.heap.size w x1 from ⟨b0.kept hk1, k0.trans hk1, HE.out.kept (k0.trans hk1)⟩)
  have z1 := hk1.size
  clear hk1 hR1 b0 k0
  gi_wp2
  clear hcv
  gi_loopw [4, 9] (fun _ vi wr => ∃ i : Nat, i ≤ s.length ∧ vi = .int .i64 i ∧ wr = x1 ∧ Hid (∀ j y, j < i → s[j]? = some y → rng y = true)) (fun _ vi _ => s.length - (intOf vi).toNat)
  case atStart => exact ⟨0, Nat.zero_le _, rfl, rfl, Lib.hid (fun j y h => absurd h (Nat.not_lt_zero _))⟩
  case round =>
    obtain ⟨i, hi, rfl, rfl, hA⟩ := hrel
    by_cases hlt : i < s.length
    · have hltI : (i : Int) < s.length := by omega
      obtain ⟨x, hx⟩ : ∃ x, s[i]? = some x := ⟨_, List.getElem?_eq_getElem hlt⟩
      obtain ⟨_, _, _, hv', hcp, cell⟩ := HR.out.at hx
      cases hv'
      rw [Nat.zero_add] at cell
      have HX := Lib.hid hx
      clear hx
      by_cases h1 : (x.toNat : Int) < 32
      · have HQ := Lib.hid (show pln s = false from pln_rng HX.out (by unfold rng; rw [decide_eq_false (by omega)]; rfl))
        have e0 := P1.out.r.c
        have f0 := P1.out.r.frz
        have B9 := P1.out.r.set (.bool false)
        have e9 := B9.c
        have K9 := Lib.hid (P1.out.k.setCell (a := ⟨w.heap.size, 0, none⟩) (Nat.le_refl _) (.bool false))
        clear B9
        gi_wp2
        exact ⟨.bool false, by simp [results, Tryz.results154, go_sem, e9], by rw [HQ.out], K9.out⟩
      · by_cases h2 : 126 < (x.toNat : Int)
        · have HQ := Lib.hid (show pln s = false from pln_rng HX.out (by unfold rng; rw [decide_eq_false (show ¬ x.toNat ≤ 126 by omega)]; exact Bool.and_false _))
          have e0 := P1.out.r.c
          have f0 := P1.out.r.frz
          have B9 := P1.out.r.set (.bool false)
          have e9 := B9.c
          have K9 := Lib.hid (P1.out.k.setCell (a := ⟨w.heap.size, 0, none⟩) (Nat.le_refl _) (.bool false))
          clear B9
          gi_wp2
          exact ⟨.bool false, by simp [results, Tryz.results154, go_sem, e9], by rw [HQ.out], K9.out⟩
        · have HQ := Lib.hid (show rng x = true by unfold rng; rw [decide_eq_true (show 32 ≤ x.toNat by omega), decide_eq_true (show x.toNat ≤ 126 by omega)]; rfl)
          gi_wp2
          exact ⟨⟨i + 1, hlt, by go_num, by trivial, Lib.hid (all_take hA.out HX.out HQ.out)⟩, by simp [intOf]; omega⟩
    · have hltI : ¬ (i : Int) < s.length := by omega
      obtain rfl : i = s.length := by omega
      have HA := Lib.hid (all_end hA.out)
      clear hA
      gi_wp2_with fail
      refine ⟨trivial, ?_⟩
      refine (callsIn_wide.2 (splitSeq_any [32] s _ P1.out.e (by decide) (by decide))).mono ?_
      rintro e W1 ⟨a, b, d, rfl, hC, k4, ⟨ha, hb, hd⟩, ⟨ha1, hb1, hd1⟩, hba, hbd⟩
      gi_wp2
      have F0 : PlI w.heap.size w W1 := ⟨P1.out.r.kept k4, P1.out.k.trans k4, P1.out.e.kept k4⟩
      have z4 := k4.size
      have lt0 := P1.out.r.lt
      have hg := env_lt HE.out
      clear HR P1
      have HIt := split_itr [32] s (by decide) (by decide) (by omega) a b d hba hbd
      rw [spl_one 32 _ s (Nat.le_refl _)] at HIt
      have HWL := Lib.hid (show ∀ k t, (splt 32 s)[k]? = some t → t.length ≤ s.length from fun k t ht => (splt_mem s t (List.mem_of_getElem? ht)).2)
      have HBD := Lib.hid (fun k x h1 h2 => @pln_bad s k x h1 h2)
      have HYS := Lib.hid (show (splt 32 s).all okw = true → pln s = true from fun h => by unfold pln; rw [HA.out, h]; rfl)
      generalize splt 32 s = ws at *
      refine range_itr (n := 9) (gf := 186) (lb := #[.pointer (some ⟨a, 0, none⟩), .pointer (some ⟨b, 0, none⟩), .pointer (some ⟨d, 0, none⟩)]) rfl (enters_of Tryz.func186 (by kernel_rfl) rfl) (T := SqT a b d) (R := RdE) (fun k hk => by rcases hk with rfl | rfl | rfl <;> omega) (fun k hk => by obtain rfl : k = 0 := hk; omega)
        HIt (fun s arr s' hs => by obtain ⟨_, _, rfl, _⟩ := hs; rfl)
        (fun k o => k = w.heap.size ∧ o.isCells = true) (fun k o hk => ⟨⟨fun q => by rcases q with rfl | rfl | rfl <;> omega, fun q => by obtain rfl : k = 0 := q; omega⟩, hk.2⟩) hC (fun A B k h => h.kept k)
        (fun k V => (∀ j y, j < k → ws[j]? = some y → okw y = true) ∧ PlI w.heap.size w V)
        (fun c _ V => c = .ret ∧ pln s = false ∧ PlI w.heap.size w V)
        ?hI ?hIx ⟨fun j y h => absurd h (Nat.not_lt_zero _), F0⟩ ?round ?done ?stop
      case hI =>
        rintro k A B ⟨h1, h2⟩ kb
        exact ⟨h1, h2.turn HE.out kb (Nat.le_refl _) (by omega) (fun k hk => by rcases hk with rfl | rfl | rfl <;> omega)⟩
      case hIx =>
        rintro q k A B ⟨h1, h2, h3⟩ kb
        exact ⟨h1, h2, h3.turn HE.out kb (Nat.le_refl _) (by omega) (fun k hk => by rcases hk with rfl | rfl | rfl <;> omega)⟩
      case round =>
        rintro lo k arr k' V ⟨t, ht, rfl, rfl⟩ ⟨h1, h2⟩ hsz K hK
        have H1 := Lib.hid h1
        have H2 := Lib.hid h2
        have HT := Lib.hid ht
        have htl := HWL.out k t ht
        clear h1 h2 ht
        simp only [List.zip_toArray, List.zip_cons_cons, List.zip_nil_right, List.foldl_toArray, List.foldl_cons, List.foldl_nil, List.setIfInBounds_toArray, List.set_cons_zero, List.set_cons_succ]
        gi_wp2
        refine hK _ _ (Kept.refl V) (fun W2 v2 d2 => ?_)
        have H3 := Lib.hid (H2.out.turn HE.out d2 (Nat.le_refl _) (by omega) (fun k hk => by rcases hk with rfl | rfl | rfl <;> omega))
        clear H2 v2 d2 hK
        by_cases he : t = []
        · subst he
          have HQ := Lib.hid (HBD.out k [] HT.out rfl)
          have e0 := H3.out.r.c
          have f0 := H3.out.r.frz
          have N3 := Lib.hid (show PlI w.heap.size w (W2.setCell ⟨w.heap.size, 0, none⟩ (.bool false)) from ⟨H3.out.r.set _, H3.out.k.setCell (a := ⟨w.heap.size, 0, none⟩) (Nat.le_refl _) _, HE.out.kept (H3.out.k.setCell (a := ⟨w.heap.size, 0, none⟩) (Nat.le_refl _) _)⟩)
          have SV := Lib.hid (Save.set (A := W2) (p := ⟨w.heap.size, 0, none⟩) (.bool false) (M := fun k o => k = w.heap.size ∧ o.isCells = true) (fun o ho => by have := H3.out.r; unfold Bv at this; rw [this] at ho; cases ho; exact ⟨rfl, rfl⟩))
          gi_wp2
          refine ⟨trivial, ?_⟩
          gi_wp2
          exact ⟨SV.out, rfl, HQ.out, N3.out⟩
        · have hte : t.isEmpty = false := by cases t with
            | nil => exact absurd rfl he
            | cons a r => rfl
          have HCo := Lib.hid (contains_any t [61, 63] W2 H3.out.e (by omega))
          rw [hq_eq] at HCo
          have HOK := Lib.hid (show okw t = !hq t by unfold okw; rw [hte]; rfl)
          generalize hq t = bq at *
          gi_wp2_with fail
          refine ⟨trivial, ?_⟩
          refine (callsIn_wide.2 HCo.out).mono ?_
          rintro e W3 ⟨rfl, rfl⟩
          cases bq with
          | true =>
            have HQ := Lib.hid (HBD.out k t HT.out (by rw [HOK.out]; rfl))
            have e0 := H3.out.r.c
            have f0 := H3.out.r.frz
            have N3 := Lib.hid (show PlI w.heap.size w (W3.setCell ⟨w.heap.size, 0, none⟩ (.bool false)) from ⟨H3.out.r.set _, H3.out.k.setCell (a := ⟨w.heap.size, 0, none⟩) (Nat.le_refl _) _, HE.out.kept (H3.out.k.setCell (a := ⟨w.heap.size, 0, none⟩) (Nat.le_refl _) _)⟩)
            have SV := Lib.hid (Save.set (A := W3) (p := ⟨w.heap.size, 0, none⟩) (.bool false) (M := fun k o => k = w.heap.size ∧ o.isCells = true) (fun o ho => by have := H3.out.r; unfold Bv at this; rw [this] at ho; cases ho; exact ⟨rfl, rfl⟩))
            gi_wp2
            exact ⟨SV.out, rfl, HQ.out, N3.out⟩
          | false =>
            have N3 := Lib.hid (alls_take H1.out HT.out (show okw t = true by rw [HOK.out]; rfl))
            gi_wp2
            exact ⟨Save.refl _ _, N3.out, H3.out⟩
      case done =>
        rintro k V hend ⟨h1, h2⟩ hv hK
        subst hend
        have HQ := Lib.hid (HYS.out (alls_end h1))
        have e0 := h2.r.c
        have f0 := h2.r.frz
        have n0 := Lib.hid (h2.r.set (.bool true))
        have K9 := Lib.hid (h2.k.setCell (a := ⟨w.heap.size, 0, none⟩) (Nat.le_refl _) (.bool true))
        clear h1 h2 hv
        gi_wp2
        refine ⟨by simp, .inl ⟨_, _, rfl, run_takeDeferred (set_other hK (by simp only; omega)), ?_⟩⟩
        have vz : Save (fun k _ => k = W1.heap.size) (V.setCell ⟨w.heap.size, 0, none⟩ (.bool true)) _ := Save.put (.deferred none) (fun _ _ => rfl)
        have cz0 := (n0.out.save vz (by omega)).c
        exact ⟨.bool true, by simp [results, Tryz.results154, go_sem, cz0], by rw [HQ.out], kept_put K9.out (by omega) _⟩
      case stop =>
        rintro q k V ⟨rfl, hq, h2⟩ hv hK
        have HQ := Lib.hid hq
        have n0 := Lib.hid h2.r
        have K9 := Lib.hid h2.k
        clear h2 hv hq
        gi_wp2
        refine ⟨by simp, .inl ⟨_, _, rfl, run_takeDeferred hK, ?_⟩⟩
        have vz : Save (fun k _ => k = W1.heap.size) V _ := Save.put (.deferred none) (fun _ _ => rfl)
        have cz0 := (n0.out.save vz (by omega)).c
        exact ⟨.bool false, by simp [results, Tryz.results154, go_sem, cz0], by rw [HQ.out], kept_put K9.out (by omega) _⟩
end Go.Proofs.YtjlpkgipdkjfhaaGreatDoor.Bk.Hd
namespace Go.Proofs.YtjlpkgipdkjfhaaGreatDoor.Bk.Hd
open Go.ChangeShapes Go.WideShapes Go.ChangeAt Go.RowKit Go.Shelf
open Bx (raw)
attribute [local go_sem] Oper.semAt_some
theorem cod_step {s r : B} {k : Nat} (h : cod r = (cod s).drop k) (hr : r ≠ []) : (cod s)[k]? = some (code (r.take (prt r))) ∧ cod (r.drop (prt r)) = (cod s).drop (k + 1) := by
  rw [cod_more hr] at h
  constructor
  · have h1 : ((cod s).drop k)[0]? = some (code (r.take (prt r))) := by rw [← h]; rfl
    rwa [List.getElem?_drop, Nat.add_zero] at h1
  · rw [← List.tail_drop, ← h]; rfl
set_option maxRecDepth 100000 in
set_option maxHeartbeats 4000000 in
theorem coded_itr (s : B) (hl : s.length ≤ 1000000) (b : Nat) :
    Itr Tryz.prog 209 #[.pointer (some ⟨b, 0, none⟩)] (seqS (cod s)) (fun k => k = (cod s).length) 0 (fun _ => False) RdE (fun W => Bv 9 b (sV s) W) := by
  intro nn ll M J Jx W hcap hM hJ hJx hY h0
  have HM := Lib.hid hM; have HJ := Lib.hid hJ; have HJX := Lib.hid hJx; have HY := Lib.hid hY; have H0 := Lib.hid h0
  have ca := hcap.c
  clear hcap hM hJ hJx hY h0
  refine callsIn_wide.2 ((callsIn_wide (n := 5)).1 ?_)
  refine callsIn_of_wp Tryz.func209 rfl trivial ?_ rfl
  simp only [Tryz.ntmps209, List.size_toArray, List.length_cons, List.length_nil, Nat.reduceAdd, Nat.reduceSub, Array.replicate_succ, Array.replicate_zero, List.push_toArray, List.append_toArray, List.nil_append, List.cons_append]
  gi_wp2
  gi_loopw [3, 4] (fun v3 _ wr => ∃ (k : Nat) (r : B), v3 = sV r ∧ Hid (cod r = (cod s).drop k) ∧ k ≤ (cod s).length ∧ r.length ≤ s.length ∧ Hid (J k wr) ∧ Hid (Save (fun k o => M k o ∨ False) W wr)) (fun v3 _ _ => match v3 with | .string x => x.size | _ => 0)
  case atStart => exact ⟨0, s, rfl, Lib.hid rfl, Nat.zero_le _, Nat.le_refl _, H0, Lib.hid (Save.refl _ _)⟩
  case round =>
    clear ca
    obtain ⟨k, r, rfl, hS, hk, hrl, hj, hv⟩ := hrel
    have hsz : (ByteArray.mk r.toArray).size = r.length := List.size_toArray
    by_cases he : r = []
    · subst he
      have HE := Lib.hid (show k = (cod s).length by
        have h := hS.out
        rw [cod_nil] at h
        have := List.drop_eq_nil_iff.1 h.symm
        omega)
      clear hS
      gi_wp2
      go_end0
      exact ⟨⟨_, rfl⟩, hv.out, .inl ⟨_, HE.out, hj.out⟩⟩
    · have hte : r.isEmpty = false := by cases r with
        | nil => exact absurd rfl he
        | cons a t => rfl
      obtain ⟨h1, h2⟩ := cod_step hS.out he
      have hp1 := prt_pos he
      have hp2 := prt_45 r
      have hp3 := prt_le r
      have HP := Lib.hid (part_any r wr (by unfold maxLen; omega))
      have hct := cut_to r (prt r) hp3
      have hcf := cut_from r (prt r) (prt r) rfl hp3
      have hrn : (r.drop (prt r)).length < r.length := by simp; omega
      obtain ⟨cp, w1, hcv, hk1, hR1⟩ := to_bytes (r.take (prt r)) wr
      have hpl : (r.take (prt r)).length ≤ 45 := by simp; omega
      have HRw := Lib.hid (raw_any _ (r.take (prt r)) w1 hR1 (by omega))
      have hrl2 := Bx.raw_len (r.take (prt r))
      have hrl3 : (raw (r.take (prt r))).length ≤ 60 := by rw [hrl2]; omega
      rw [show code (r.take (prt r)) = (opn ++ raw (r.take (prt r))) ++ cls by unfold code; rw [List.append_assoc]] at h1
      have happ1 : (⟨#[61, 63, 117, 116, 102, 45, 56, 63, 66, 63]⟩ ++ ⟨(raw (r.take (prt r))).toArray⟩ : ByteArray) = ⟨(opn ++ raw (r.take (prt r))).toArray⟩ := app_mk opn _
      have happ2 : (⟨(opn ++ raw (r.take (prt r))).toArray⟩ ++ ⟨#[63, 61]⟩ : ByteArray) = ⟨((opn ++ raw (r.take (prt r))) ++ cls).toArray⟩ := app_mk _ cls
      have hl1 : (opn ++ raw (r.take (prt r))).length ≤ 70 := by rw [List.length_append]; have : opn.length = 10 := rfl; omega
      have HT := Lib.hid h1
      have HN := Lib.hid h2
      clear h1 h2 hS he hrl2 hR1
      generalize prt r = n at *
      generalize r.take n = p at *
      generalize (opn ++ raw p) ++ cls = cw at *
      generalize opn ++ raw p = c1 at *
      generalize raw p = rp at *
      generalize r.drop n = q at *
      gi_wp2_with fail
      refine ⟨trivial, ?_⟩
      refine (callsIn_wide.2 HP.out).mono ?_
      rintro e w2 ⟨rfl, rfl⟩
      gi_wp2_with fail
      refine ⟨trivial, ?_⟩
      refine (callsIn_wide.2 HRw.out).mono ?_
      rintro e w3 ⟨rfl, k3⟩
      have KK := hk1.trans k3
      have JZ := Lib.hid (HJ.out k w2 w3 hj.out (Save.of_kept _ KK))
      have VZ := Lib.hid (hv.out.trans (Save.of_kept _ KK))
      obtain ⟨fn, tmps, assign, body, hy, hRr⟩ := yield_any (m := 4) (HY.out k #[sV cw] (k + 1) w3 ⟨cw, HT.out, rfl, rfl⟩ JZ.out)
      clear hcv hk1 k3 KK HP HRw hj hv
      gi_wp2
      refine hRr.mono ?_
      rintro e W3 ⟨v3, ⟨rfl, j3⟩ | ⟨rfl, j3⟩⟩
      · have V3 := Lib.hid (VZ.out.trans (v3.mono (fun _ _ _ h => Or.inl h)))
        have JN := Lib.hid j3
        clear hRr hy v3 VZ JZ
        have hkl : k + 1 ≤ (cod s).length := (List.getElem?_eq_some_iff.1 HT.out).1
        gi_wp2
        exact ⟨⟨k + 1, q, rfl, HN, hkl, by omega, JN, V3⟩, by show (ByteArray.mk q.toArray).size < (ByteArray.mk r.toArray).size; rw [str_lit, str_lit]; exact hrn⟩
      · have V3 := Lib.hid (VZ.out.trans (v3.mono (fun _ _ _ h => Or.inl h)))
        clear hRr hy v3
        gi_wp2
        exact bodyPost_ret (results_none rfl _ _ _) rfl ⟨⟨_, rfl⟩, V3.out, .inr ⟨_, j3⟩⟩
def SeqV (B0 : Nat) (v : Value) (ws : List B) (w : World) : Prop :=
  ∃ (gf : Nat) (lb : Array Value) (T : Nat → Prop) (cap : World → Prop), v = .func (.func gf) #[] lb ∧ (∀ args w, (callFunc gf args).run Tryz.prog w = .ok (.enter gf args) w) ∧ Itr Tryz.prog gf lb (seqS ws) (fun k => k = ws.length) 0 T RdE cap ∧ cap w ∧ (∀ A B, Kept A B → cap A → cap B) ∧ (∀ k, T k → B0 ≤ k ∧ k < w.heap.size)
theorem SeqV.kept {B0 : Nat} {v : Value} {ws : List B} {w w' : World} (h : SeqV B0 v ws w) (k : Kept w w') : SeqV B0 v ws w' := by
  obtain ⟨gf, lb, T, cap, h1, h2, h3, h4, h5, h6⟩ := h
  exact ⟨gf, lb, T, cap, h1, h2, h3, h5 _ _ k h4, h5, fun j hj => ⟨(h6 j hj).1, Nat.lt_of_lt_of_le (h6 j hj).2 k.size⟩⟩
theorem coded_any (s : B) (w : World) (hl : s.length ≤ 1000000) : Calls Tryz.prog 155 #[sV s] w fun e w' => ∃ v, e = .returned v ∧ SeqV w.heap.size v (cod s) w' ∧ Kept w w' := by
  have k0 := (Kept.refl w).alloc (.cells #[sV s] 9)
  have b0 := Bv.new w (sV s) 9
  have s0 : (w.alloc (.cells #[sV s] 9)).heap.size = w.heap.size + 1 := by simp
  go_enter Tryz.func155, Tryz.ntmps155
  go_upto_region 1 with (fail)
  generalize w.alloc (.cells #[sV s] 9) = x at *
  go_wp2
  go_ret
  exact ⟨_, rfl, ⟨209, _, _, _, rfl, enters_of Tryz.func209 (by kernel_rfl) rfl, coded_itr s hl w.heap.size, b0, fun A B k h => h.kept k, fun _ h => h.elim⟩, k0⟩
theorem splits_any (s : B) (w : World) (hE : Env w) (hl : s.length ≤ 1000000) : Calls Tryz.prog 87 #[sV s, .string ⟨#[32]⟩] w fun e w' => ∃ v, e = .returned v ∧ SeqV w.heap.size v (splt 32 s) w' ∧ Kept w w' := by
  refine (splitSeq_any [32] s w hE (by decide) (by decide)).mono ?_
  rintro e w' ⟨a, b, d, rfl, hC, k4, ⟨ha, hb, hd⟩, ⟨ha1, hb1, hd1⟩, hba, hbd⟩
  have HIt := split_itr [32] s (by decide) (by decide) (by omega) a b d hba hbd
  rw [spl_one 32 _ s (Nat.le_refl _)] at HIt
  exact ⟨_, rfl, ⟨186, _, _, _, rfl, enters_of Tryz.func186 (by kernel_rfl) rfl, HIt, hC, fun A B k h => h.kept k, fun k hk => by rcases hk with rfl | rfl | rfl <;> exact ⟨by assumption, by assumption⟩⟩, k4⟩
theorem words_any (s : B) (w : World) (hE : Env w) (hl : s.length ≤ 1000000) : Calls Tryz.prog 104 #[sV s] w fun e w' => ∃ v, e = .returned v ∧ SeqV w.heap.size v (wds s) w' ∧ Kept w w' := by
  have HP := Lib.hid (plain_any s w hE hl)
  have HE := Lib.hid hE
  have HS := Lib.hid (fun w hE => splits_any s w hE hl)
  have HC := Lib.hid (fun w => coded_any s w hl)
  have HW := Lib.hid (show wds s = if pln s = true then splt 32 s else cod s from rfl)
  clear hE
  generalize wds s = ws at *
  generalize splt 32 s = w1 at *
  generalize cod s = w2 at *
  cases hp : pln s with
  | true =>
    rw [hp] at HP HW
    have HZ := Lib.hid (HW.out.trans (if_pos rfl))
    go_enter Tryz.func104, Tryz.ntmps104
    go_wp2_with fail
    refine HP.out.mono ?_
    rintro e x1 ⟨rfl, k1⟩
    go_wp2_with fail
    refine (HS.out x1 (HE.out.kept k1)).mono ?_
    rintro e x2 ⟨v, rfl, hv, k2⟩
    have hv2 : SeqV w.heap.size v ws x2 := by
      obtain ⟨gf, lb, T, cap, h1, h2, h3, h4, h5, h6⟩ := hv
      rw [HZ.out]
      exact ⟨gf, lb, T, cap, h1, h2, h3, h4, h5, fun k hk => ⟨Nat.le_trans k1.size (h6 k hk).1, (h6 k hk).2⟩⟩
    have HV := Lib.hid hv2
    have KK := Lib.hid (k1.trans k2)
    clear hv hv2 k1 k2
    go_wp2
    go_ret
    exact ⟨_, rfl, HV.out, KK.out⟩
  | false =>
    rw [hp] at HP HW
    have HZ := Lib.hid (HW.out.trans (if_neg (by decide)))
    go_enter Tryz.func104, Tryz.ntmps104
    go_wp2_with fail
    refine HP.out.mono ?_
    rintro e x1 ⟨rfl, k1⟩
    go_wp2_with fail
    refine (HC.out x1).mono ?_
    rintro e x2 ⟨v, rfl, hv, k2⟩
    have hv2 : SeqV w.heap.size v ws x2 := by
      obtain ⟨gf, lb, T, cap, h1, h2, h3, h4, h5, h6⟩ := hv
      rw [HZ.out]
      exact ⟨gf, lb, T, cap, h1, h2, h3, h4, h5, fun k hk => ⟨Nat.le_trans k1.size (h6 k hk).1, (h6 k hk).2⟩⟩
    have HV := Lib.hid hv2
    have KK := Lib.hid (k1.trans k2)
    clear hv hv2 k1 k2
    go_wp2
    go_ret
    exact ⟨_, rfl, HV.out, KK.out⟩
end Go.Proofs.YtjlpkgipdkjfhaaGreatDoor.Bk.Hd
namespace Go.Proofs.YtjlpkgipdkjfhaaGreatDoor.Bk.Hd
open Go.ChangeShapes Go.WideShapes Go.ChangeAt Go.RowKit Go.Shelf
attribute [local go_sem] Oper.semAt_some
theorem kept_below {w x y : World} (h : Kept w x) {n : Nat} (k : Below n x y) (hn : w.heap.size ≤ n) : Kept w y :=
  ⟨k.os.trans h.os, k.output.trans h.output, Nat.le_trans h.size k.size, fun j hj => (k.block j (by omega)).trans (h.block j hj), k.tape.trans h.tape⟩
theorem below_save {n : Nat} {w A B : World} {M : Nat → Obj → Prop} (h : Below n w A) (k : Save M A B) (hn : n ≤ A.heap.size) (hm : ∀ j o, j < n → ¬ M j o) : Below n w B :=
  ⟨k.os.trans h.os, k.tape.trans h.tape, k.output.trans h.output, Nat.le_trans h.size k.size, fun j hj => by
    obtain ⟨ob, hob⟩ := at_some (A := A) (k := j) (by omega)
    rw [k.block j ob hob (hm j ob hj), ← hob, h.block j hj]⟩
structure AsI (B0 b n1 : Nat) (v : Value) (ls : List B) (w V : World) : Prop where
  bx : Bv 42 b v V
  ow : OwnS n1 v ls V
  k : Below B0 w V
  sz : n1 ≤ V.heap.size
theorem AsI.turn {B0 b n1 : Nat} {v : Value} {ls : List B} {w V V' : World} {T : Nat → Prop} (h : AsI B0 b n1 v ls w V) (k : Save (Itn T n1) V V') (hT : ∀ k, T k → B0 ≤ k ∧ k < b) (hb : b < n1) (hB : B0 ≤ b) : AsI B0 b n1 v ls w V' := by
  have hsz := h.sz
  refine ⟨h.bx.save k (fun q => ?_), own_turn h.ow k (fun g c hg q => ?_), below_save h.k k (by omega) (fun j o hj q => ?_), Nat.le_trans h.sz k.size⟩
  · rcases q with q | q
    · have := hT _ q; omega
    · omega
  · rcases q with q | q
    · have := hT _ q; omega
    · cases q.2
  · rcases q with q | q
    · have := hT _ q; omega
    · omega
theorem AsI.kept {B0 b n1 : Nat} {v : Value} {ls : List B} {w V V' : World} (h : AsI B0 b n1 v ls w V) (k : Kept V V') (hB : B0 ≤ n1) : AsI B0 b n1 v ls w V' :=
  ⟨h.bx.kept k, OwnS.kept h.ow k, h.k.trans (k.below (by have := h.sz; omega)), Nat.le_trans h.sz k.size⟩
end Go.Proofs.YtjlpkgipdkjfhaaGreatDoor.Bk.Hd
namespace Go.Proofs.YtjlpkgipdkjfhaaGreatDoor.Bk.Hd
open Go.ChangeShapes Go.WideShapes Go.ChangeAt Go.RowKit Go.Shelf
attribute [local go_sem] Oper.semAt_some
structure LnI (r0 bm bw n1 : Nat) (v : Value) (s : B × Nat) (w V : World) : Prop where
  mb : Bv 25 bm v V
  wb : Bv 3 bw (iV s.2) V
  ow : OwnM w.heap.size v s.1 V
  rw : ∀ g, v.ownBlock = some g → g = r0 ∨ n1 ≤ g
  k : Kept w V
  sz : n1 ≤ V.heap.size
def LnM (T : Nat → Prop) (r0 bm bw n1 : Nat) (k : Nat) (o : Obj) : Prop := o.isCells = true ∧ ¬ T k ∧ (k = r0 ∨ k = bm ∨ k = bw ∨ n1 ≤ k)
structure LnX (w : World) (T : Nat → Prop) (r0 bm bw n1 : Nat) : Prop where
  a0 : w.heap.size ≤ r0
  a1 : r0 < bm
  a2 : bm < bw
  a3 : bw < n1
  t : ∀ k, T k → bw < k ∧ k < n1
section
variable {r0 bm bw n1 : Nat} {v : Value} {s : B × Nat} {w V V' : World} {T : Nat → Prop}
theorem LnX.no (c : LnX w T r0 bm bw n1) {j : Nat} (h : j ≤ bw ∨ n1 ≤ j) : ¬ T j := fun q => by have := c.t j q; omega
theorem LnI.turn (c : LnX w T r0 bm bw n1) (h : LnI r0 bm bw n1 v s w V) (k : Save (Itn T n1) V V') : LnI r0 bm bw n1 v s w V' := by
  have a0 := c.a0; have a1 := c.a1; have a2 := c.a2; have a3 := c.a3
  have no : ∀ j o, j ≤ bw → ¬ Itn T n1 j o := fun j o hj q => by
    rcases q with q | q
    · exact c.no (Or.inl hj) q
    · omega
  refine ⟨h.mb.save k (no _ _ (by omega)), h.wb.save k (no _ _ (by omega)), h.ow.stay (fun g hg => ?_), h.rw, Save.kept_of h.k k (fun j o hj => no j o (by omega)), Nat.le_trans h.sz k.size⟩
  obtain ⟨cs, fz, hc⟩ := h.ow.kind g hg
  rw [hc]
  refine k.at hc (fun q => ?_)
  rcases q with q | q
  · rcases h.rw g hg with e | e
    · exact c.no (Or.inl (by omega)) q
    · exact c.no (Or.inr e) q
  · cases q.2
theorem LnI.ub (c : LnX w T r0 bm bw n1) (h : LnI r0 bm bw n1 v s w V) : v.ownBlock ≠ some bm ∧ v.ownBlock ≠ some bw := by
  have a1 := c.a1; have a2 := c.a2; have a3 := c.a3
  exact ⟨fun e => by rcases h.rw _ e with q | q <;> omega, fun e => by rcases h.rw _ e with q | q <;> omega⟩
theorem LnI.setM {y : World} {v' : Value} {l' : B} (c : LnX w T r0 bm bw n1) (h : LnI r0 bm bw n1 v s w V) (ho : OwnM w.heap.size v' l' y) (hg : V.grownBy y v.ownBlock) (hb : NewB V v v') :
    LnI r0 bm bw n1 v' (l', s.2) w (y.setCell ⟨bm, 0, none⟩ v') ∧ Save (LnM T r0 bm bw n1) V (y.setCell ⟨bm, 0, none⟩ v') := by
  have a0 := c.a0; have a1 := c.a1; have a2 := c.a2; have a3 := c.a3
  obtain ⟨u1, u2⟩ := h.ub c
  have hsz := h.sz
  have hrw : ∀ g, v'.ownBlock = some g → g = r0 ∨ n1 ≤ g := fun g hg' => by
    rcases hb g hg' with q | q
    · exact h.rw g q
    · exact Or.inr (by omega)
  refine ⟨⟨(h.mb.grown hg u1).set _, (h.wb.grown hg u2).other (by omega) _ _, ho.stay (fun g hg' => Below.heap_setCell _ _ _ _ (by rcases hrw g hg' with q | q <;> (show g ≠ bm; omega))), hrw, ?_, ?_⟩, save_row hg (fun g o hg' ho' => ?_) (fun o ho' => ?_)⟩
  · exact (kept_row h.k hg (fun g hg' => by rcases h.rw g hg' with q | q <;> omega)).setCell (by simp only; omega) _
  · have := hg.size; simp [World.setCell]; omega
  · obtain ⟨cs, fz, hc⟩ := h.ow.kind g hg'
    rw [hc] at ho'
    cases ho'
    rcases h.rw g hg' with q | q
    · exact ⟨rfl, c.no (Or.inl (by omega)), Or.inl q⟩
    · exact ⟨rfl, c.no (Or.inr q), Or.inr (Or.inr (Or.inr q))⟩
  · have := h.mb
    unfold Bv at this
    rw [this] at ho'
    cases ho'
    exact ⟨rfl, c.no (Or.inl (by omega)), Or.inr (Or.inl rfl)⟩
theorem LnI.setW (c : LnX w T r0 bm bw n1) (h : LnI r0 bm bw n1 v s w V) (x : Int) (k' : Nat) (hx : x = k') :
    LnI r0 bm bw n1 v (s.1, k') w (V.setCell ⟨bw, 0, none⟩ (iV x)) ∧ Save (LnM T r0 bm bw n1) V (V.setCell ⟨bw, 0, none⟩ (iV x)) := by
  have a0 := c.a0; have a1 := c.a1; have a2 := c.a2; have a3 := c.a3
  subst hx
  refine ⟨⟨h.mb.other (by omega) _ _, h.wb.set _, h.ow.stay (fun g hg' => Below.heap_setCell _ _ _ _ (by rcases h.rw g hg' with q | q <;> (show g ≠ bw; omega))), h.rw, h.k.setCell (by simp only; omega) _, by have := h.sz; simpa [World.setCell] using this⟩, Save.set _ (fun o ho' => ?_)⟩
  have := h.wb
  unfold Bv at this
  rw [this] at ho'
  cases ho'
  exact ⟨rfl, c.no (Or.inl (Nat.le_refl _)), Or.inr (Or.inr (Or.inl rfl))⟩
end
def lE (h : Hdr) : Int := if okH h = true then 0 else 1
theorem lE_ok {h : Hdr} (hk : okH h = true) : lE h = 0 := if_pos hk
theorem lE_no {h : Hdr} (hk : okH h = false) : lE h = 1 := if_neg (by rw [hk]; decide)
theorem line_no {h : Hdr} (hk : okH h = false) : line h = none := if_neg (by rw [hk]; decide)
set_option maxRecDepth 100000 in
set_option maxHeartbeats 4000000 in
theorem line_any0 (h : Hdr) (w : World) (hE : Env w) (hn : h.1.length ≤ maxLen) (ht : h.2.length ≤ maxLen) :
    Calls Tryz.prog 61 #[hV h] w fun e w' => ∃ xv, e = .returned (.tuple #[xv, .int .i64 (lE h)]) ∧ OwnM w.heap.size xv ((line h).getD []) w' ∧ Kept w w' := by
  unfold maxLen at hn ht
  obtain ⟨n, t⟩ := h
  simp only at hn ht
  have hts : (ByteArray.mk t.toArray).size = t.length := List.size_toArray
  have k0 := (Kept.refl w).alloc (.cells #[sV n, sV t] 41)
  have c0 := (Kept.refl (w.alloc (.cells #[sV n, sV t] 41))).new 0 (v := sV n) rfl
  have c1 := (Kept.refl (w.alloc (.cells #[sV n, sV t] 41))).new 1 (v := sV t) rfl
  have s0 : (w.alloc (.cells #[sV n, sV t] 41)).heap.size = w.heap.size + 1 := by simp
  have HE := Lib.hid hE
  clear hE
  refine (callsIn_wide (n := 9)).1 ?_
  refine callsIn_of_wp_marks Tryz.func61 rfl trivial ?_ rfl
  simp only [Tryz.ntmps61, List.size_toArray, List.length_cons, List.length_nil, Nat.reduceAdd, Nat.reduceSub, Array.replicate_succ, Array.replicate_zero, List.push_toArray, List.append_toArray, List.nil_append, List.cons_append]
  gi_upto_region 1 with (fail)
  generalize w.alloc (.cells #[sV n, sV t] 41) = x0 at *
  gi_wp2_with fail
  refine ⟨trivial, ?_⟩
  refine (callsIn_wide.2 (name_any n _ (by unfold maxLen; omega))).mono ?_
  rintro e x1 ⟨rfl, k1⟩
  have d0 := k1.yes c0
  have d1 := k1.yes c1
  have K1 := Lib.hid (k0.trans k1)
  have z1 := k1.size
  clear c0 c1 k0 k1
  cases hnm : nam n with
  | false =>
    have HK := Lib.hid (show okH (n, t) = false by unfold okH; rw [hnm]; rfl)
    clear hnm
    gi_wp2
    exact ⟨.tuple #[.slice none 0 0, .int .i64 1], by simp [results, Tryz.results61, go_sem], _, by rw [lE_no HK.out], by rw [line_no HK.out]; exact OwnM.nil _ _, K1.out⟩
  | true =>
    by_cases hlen : 4000 < (t.length : Int)
    · have HK := Lib.hid (show okH (n, t) = false by unfold okH; rw [hnm, decide_eq_false (show ¬ t.length ≤ 4000 by omega)]; rfl)
      clear hnm
      gi_wp2
      exact ⟨.tuple #[.slice none 0 0, .int .i64 1], by simp [results, Tryz.results61, go_sem], _, by rw [lE_no HK.out], by rw [line_no HK.out]; exact OwnM.nil _ _, K1.out⟩
    · have HK := Lib.hid (show okH (n, t) = true by unfold okH; rw [hnm, decide_eq_true (show t.length ≤ 4000 by omega)]; rfl)
      have HL := Lib.hid (show lnH (n, t) = ((wds t).foldl stL (n ++ [58], (n ++ [58]).length)).1 ++ [13, 10] by
        rw [← fil_fold, lnH_parts]; unfold bdy; simp)
      have hnl := (nam_all hnm).2.2
      have happ : (⟨n.toArray⟩ ++ ⟨#[58]⟩ : ByteArray) = ⟨(n ++ [58]).toArray⟩ := app_mk n [58]
      have hPl : (n ++ [58]).length ≤ 41 := by simp; omega
      obtain ⟨cp, x2, hcv, hk2, hO2⟩ := to_own (n ++ [58]) x1 (by omega)
      have e1 := hk2.yes d1
      have K2 := Lib.hid (K1.out.trans hk2)
      have z2 := hk2.size
      have z2' : x1.heap.size < x2.heap.size := (hO2.lt x1.heap.size rfl).2
      clear hnm
      generalize n ++ [58] = P at *
      clear hk2
      gi_upto_region 4 with (fail)
      have b3 := Bv.new x2 (.slice (some ⟨x1.heap.size, 0, none⟩) P.length cp) 25
      have k3 : Kept x2 (x2.alloc (.cells #[.slice (some ⟨x1.heap.size, 0, none⟩) P.length cp] 25)) := (Kept.refl x2).alloc _
      have s3 : (x2.alloc (.cells #[.slice (some ⟨x1.heap.size, 0, none⟩) P.length cp] 25)).heap.size = x2.heap.size + 1 := by simp
      generalize x2.alloc (.cells #[.slice (some ⟨x1.heap.size, 0, none⟩) P.length cp] 25) = x3 at *
      have e3 := b3.c
      have O3 := hO2.kept k3
      have f1 := k3.yes e1
      clear hcv d0 d1 e1
      gi_upto_region 5 with (fail)
      have b4 := Bv.new x3 (iV P.length) 3
      have k4 : Kept x3 (x3.alloc (.cells #[iV P.length] 3)) := (Kept.refl x3).alloc _
      have s4 : (x3.alloc (.cells #[iV P.length] 3)).heap.size = x3.heap.size + 1 := by simp
      rw [s3] at b4 s4
      generalize x3.alloc (.cells #[iV P.length] 3) = x4 at *
      have g1 := k4.yes f1
      have b34 := b3.kept k4
      have O4 := O3.kept k4
      have K4 := Lib.hid ((K2.out.trans k3).trans k4)
      clear e3 f1 b3 O3 k3 k4 hO2
      gi_wp2_with fail
      refine ⟨trivial, ?_⟩
      refine (callsIn_wide.2 (words_any t _ (HE.out.kept K4.out) (by omega))).mono ?_
      rintro e W1 ⟨vs, rfl, ⟨gf, lb, T, cap, rfl, h2, h3, h4, h5, h6⟩, k5⟩
      have z5 := k5.size
      have K5 := Lib.hid (K4.out.trans k5)
      have cx : LnX w T x1.heap.size x2.heap.size (x2.heap.size + 1) W1.heap.size := ⟨by omega, by omega, by omega, by omega, fun k hk => by have := h6 k hk; omega⟩
      have F0 : LnI x1.heap.size x2.heap.size (x2.heap.size + 1) W1.heap.size (.slice (some ⟨x1.heap.size, 0, none⟩) P.length cp) (P, P.length) w W1 :=
        ⟨b34.kept k5, b4.kept k5, (O4.kept k5).mono (by omega), fun g hg => by simp [Value.ownBlock] at hg; omega, K5.out, Nat.le_refl _⟩
      have hg := env_lt HE.out
      have hsum := sumW_wds t
      have hwl := (sumW_len (wds t)).2
      have hwn := (sumW_len (wds t)).1
      clear b34 b4 O4 k5 g1 K4 K2 K1
      have hwm : ∀ x ∈ wds t, x.length ≤ 76003 := fun x hx => by have := hwl x hx; omega
      have hwc : (wds t).length ≤ 76003 := by omega
      clear hwl hwn hsum
      generalize wds t = ws at *
      gi_wp2
      refine range_itr (n := 9) (gf := gf) (lb := lb) rfl h2 (T := T) (R := RdE) (fun k hk => (h6 k hk).2) (fun k hk => by obtain rfl : k = 0 := hk; omega)
        h3 (fun s arr s' hs => by obtain ⟨_, _, rfl, _⟩ := hs; rfl)
        (LnM T x1.heap.size x2.heap.size (x2.heap.size + 1) W1.heap.size) (fun k o hk => ⟨⟨hk.2.1, fun q => by obtain rfl : k = 0 := q; rcases hk.2.2 with q | q | q | q <;> omega⟩, hk.1⟩) h4 h5
        (fun k V => ∃ u, LnI x1.heap.size x2.heap.size (x2.heap.size + 1) W1.heap.size u ((ws.take k).foldl stL (P, P.length)) w V)
        (fun _ _ _ => False)
        ?hI ?hIx ⟨_, F0⟩ ?round ?done ?stop
      case hI =>
        rintro k A B ⟨u, h⟩ kb
        exact ⟨u, h.turn cx kb⟩
      case hIx =>
        rintro q k A B h kb
        exact h
      case stop =>
        rintro c s W h _ _
        exact h.elim
      case round =>
        rintro lo k arr k' V ⟨tw, htw, rfl, rfl⟩ ⟨u, h⟩ hsz K hK
        have H := Lib.hid h
        have HS := Lib.hid (stL_take (P, P.length) htw)
        have hb := stL_len 76003 (ws.take k) (P, P.length) (fun x hx => hwm x (List.mem_of_mem_take hx))
        have htl := hwm tw (List.mem_of_getElem? htw)
        have hkl : (ws.take k).length ≤ 76003 := by simp; omega
        have hb1 : ((ws.take k).foldl stL (P, P.length)).1.length ≤ 41 + 76003 * 76006 := Nat.le_trans hb.1 (Nat.add_le_add hPl (Nat.mul_le_mul_right _ hkl))
        have hb2 : ((ws.take k).foldl stL (P, P.length)).2 ≤ 76200 := by have := hb.2; simp only at this; omega
        clear h htw hb hkl
        generalize (ws.take k).foldl stL (P, P.length) = s at *
        obtain ⟨l, kk⟩ := s
        simp only at hb1 hb2
        have hws : (ByteArray.mk tw.toArray).size = tw.length := List.size_toArray
        simp only [List.zip_toArray, List.zip_cons_cons, List.zip_nil_right, List.foldl_toArray, List.foldl_cons, List.foldl_nil, List.setIfInBounds_toArray, List.set_cons_zero, List.set_cons_succ]
        gi_wp2
        refine hK _ _ (Kept.refl V) (fun W2 v2 d2 => ?_)
        have H2 := Lib.hid (H.out.turn cx d2)
        clear H v2 d2 hK
        have e0 := H2.out.wb.c
        simp only at e0
        have happw : (⟨#[32]⟩ ++ ⟨tw.toArray⟩ : ByteArray) = ⟨([32] ++ tw).toArray⟩ := app_mk [32] tw
        have hwl1 : ([32] ++ tw).length = 1 + tw.length := by simp; omega
        by_cases hlong : 76 < kk + 1 + tw.length
        · have hlI : (76 : Int) < (kk : Int) + 1 + tw.length := by omega
          have HQ := Lib.hid (show stL (l, kk) tw = ((l ++ [13, 10]) ++ ([32] ++ tw), 1 + tw.length) from stL_yes hlong)
          clear hlong
          generalize [32] ++ tw = sw at *
          gi_upto_region 8 with (fail)
          have e1 := H2.out.mb.c
          have hsz2 := H2.out.sz
          have hK2 := H2.out.k.size
          obtain ⟨va, vc, hvv⟩ := H2.out.ow.slice
          simp only at hvv
          subst hvv
          gi_wp2_with (gi_at_builtin; refine wpListIn_strM rfl _ _ rfl w.heap.size _ l [13, 10] rfl H2.out.ow rfl (by simp; omega) hK2 ?_)
          intro v4 y hy hgy hnb
          obtain ⟨F4, S4⟩ := H2.out.setM cx hy hgy hnb
          have H4 := Lib.hid F4
          have S4' := Lib.hid S4
          have g4 := H2.out.mb.grown hgy (H2.out.ub cx).1
          have q4 := g4.c
          have f4 := g4.frz
          have hl4 : (l ++ [13, 10]).length ≤ 43 + 76003 * 76006 := by simp; omega
          clear F4 S4 hy hgy hnb g4 e0 e1 H2 hK2 hsz2
          obtain ⟨va4, vc4, hv4⟩ := H4.out.ow.slice
          simp only at hv4
          subst hv4
          generalize l ++ [13, 10] = l4 at *
          gi_upto_region 9 with (fail)
          generalize y.setCell ⟨x2.heap.size, 0, none⟩ (.slice va4 l4.length vc4) = z at *
          have e5 := H4.out.wb.c
          have f5 := H4.out.wb.frz
          simp only at e5
          obtain ⟨F5, S5⟩ := H4.out.setW cx 0 0 rfl
          have H5 := Lib.hid F5
          have S5' := Lib.hid (S4'.out.trans S5)
          clear F5 S5 S4' q4 f4 H4
          gi_upto_region 10 with (fail)
          simp only at H5
          generalize z.setCell ⟨x2.heap.size + 1, 0, none⟩ (iV 0) = z5 at *
          clear e5 f5
          have e1 := H5.out.mb.c
          have hK5 := H5.out.k.size
          gi_wp2_with (gi_at_builtin; refine wpListIn_strM rfl _ _ rfl w.heap.size _ l4 sw rfl H5.out.ow rfl (by omega) hK5 ?_)
          intro v6 y6 hy hgy hnb
          obtain ⟨F6, S6⟩ := H5.out.setM cx hy hgy hnb
          have H6 := Lib.hid F6
          have S6' := Lib.hid (S5'.out.trans S6)
          have g6 := H5.out.mb.grown hgy (H5.out.ub cx).1
          have q6 := g6.c
          have f6 := g6.frz
          clear F6 S6 hy hgy hnb g6 e1 H5 hK5 S5'
          obtain ⟨va6, vc6, hv6⟩ := H6.out.ow.slice
          simp only at hv6
          subst hv6
          generalize l4 ++ sw = l6 at *
          gi_upto_region 11 with (fail)
          generalize y6.setCell ⟨x2.heap.size, 0, none⟩ (.slice va6 l6.length vc6) = z6 at *
          have e7 := H6.out.wb.c
          have f7 := H6.out.wb.frz
          simp only at e7
          clear q6 f6
          gi_wp2
          exact ⟨S6'.out.trans (H6.out.setW cx _ (1 + tw.length) (by omega)).2, _, by rw [HS.out, HQ.out]; exact (H6.out.setW cx _ (1 + tw.length) (by omega)).1⟩
        · have hlI : ¬ (76 : Int) < (kk : Int) + 1 + tw.length := by omega
          have HQ := Lib.hid (show stL (l, kk) tw = (l ++ ([32] ++ tw), kk + 1 + tw.length) from stL_no hlong)
          clear hlong
          generalize [32] ++ tw = sw at *
          gi_upto_region 10 with (fail)
          have e1 := H2.out.mb.c
          have hK2 := H2.out.k.size
          obtain ⟨va, vc, hvv⟩ := H2.out.ow.slice
          simp only at hvv
          subst hvv
          gi_wp2_with (gi_at_builtin; refine wpListIn_strM rfl _ _ rfl w.heap.size _ l sw rfl H2.out.ow rfl (by omega) hK2 ?_)
          intro v6 y6 hy hgy hnb
          obtain ⟨F6, S6⟩ := H2.out.setM cx hy hgy hnb
          have H6 := Lib.hid F6
          have S6' := Lib.hid S6
          have g6 := H2.out.mb.grown hgy (H2.out.ub cx).1
          have q6 := g6.c
          have f6 := g6.frz
          clear F6 S6 hy hgy hnb g6 e1 e0 H2 hK2
          obtain ⟨va6, vc6, hv6⟩ := H6.out.ow.slice
          simp only at hv6
          subst hv6
          generalize l ++ sw = l6 at *
          gi_upto_region 11 with (fail)
          generalize y6.setCell ⟨x2.heap.size, 0, none⟩ (.slice va6 l6.length vc6) = z6 at *
          have e7 := H6.out.wb.c
          have f7 := H6.out.wb.frz
          simp only at e7
          clear q6 f6
          gi_wp2
          exact ⟨S6'.out.trans (H6.out.setW cx _ (kk + 1 + tw.length) (by omega)).2, _, by rw [HS.out, HQ.out]; exact (H6.out.setW cx _ (kk + 1 + tw.length) (by omega)).1⟩
      case done =>
        rintro k V hend ⟨u, h⟩ hv hKd
        subst hend
        rw [List.take_length] at h
        have hb := stL_len 76003 ws (P, P.length) hwm
        have hb1 : (ws.foldl stL (P, P.length)).1.length ≤ 41 + 76003 * 76006 := Nat.le_trans hb.1 (Nat.add_le_add hPl (Nat.mul_le_mul_right _ hwc))
        clear hb
        generalize ws.foldl stL (P, P.length) = s at *
        obtain ⟨l, kk⟩ := s
        simp only at hb1 HL
        have H := Lib.hid h
        have e0 := h.mb.c
        obtain ⟨va, vc, hvv⟩ := h.ow.slice
        simp only at hvv
        subst hvv
        have hK2 := h.k.size
        have HKd := Lib.hid hKd
        clear h hv hKd
        gi_wp2_with (gi_at_builtin; refine wpListIn_strM rfl _ _ rfl w.heap.size _ l [13, 10] rfl H.out.ow rfl (by simp; omega) hK2 ?_)
        intro v4 y hy hgy hnb
        have hKy : y.heap[W1.heap.size]? = some (.deferred (some [])) := (hgy.block _ (Array.getElem?_eq_some_iff.1 HKd.out).1 (fun e => by
          obtain ⟨cs, fz, hc⟩ := H.out.ow.kind _ e.symm
          rw [HKd.out] at hc; cases hc)).trans HKd.out
        have Ky := kept_row H.out.k hgy (fun g hg' => by have := cx.a0; have := cx.a1; have := cx.a2; have := cx.a3; rcases H.out.rw g hg' with q | q <;> omega)
        obtain ⟨va4, vc4, hv4⟩ := hy.slice
        have HO := Lib.hid (show OwnM w.heap.size v4 (l ++ [13, 10]) (y.putObj W1.heap.size (.deferred none)) from hy.stay (fun g hg' => World.putObj_heap_other (fun e => by
          obtain ⟨cs, fz, hc⟩ := hy.kind g hg'
          rw [e, hKy] at hc; cases hc)))
        have HKk := Lib.hid (kept_put Ky (show w.heap.size ≤ W1.heap.size by have := cx.a0; have := cx.a1; have := cx.a2; have := cx.a3; omega) (.deferred none))
        clear hy hgy hnb Ky e0
        generalize l ++ [13, 10] = l4 at *
        subst hv4
        gi_wp2
        refine ⟨by simp, .inl ⟨_, _, rfl, run_takeDeferred hKy, ?_⟩⟩
        exact ⟨.tuple #[.slice va4 l4.length vc4, .int .i64 0], by simp [results, Tryz.results61, go_sem], _, by rw [lE_ok HK.out], by rw [line_lnH HK.out, Option.getD_some, HL.out]; exact HO.out, HKk.out⟩
theorem line_any (h : Hdr) (w : World) (hE : Env w) (hn : h.1.length ≤ 100000000) (ht : h.2.length ≤ 100000000) :
    Calls Tryz.prog 61 #[hV h] w fun e w' => ∃ xv, e = .returned (.tuple #[xv, .int .i64 (lE h)]) ∧ OwnM w.heap.size xv ((line h).getD []) w' ∧ Kept w w' := line_any0 h w hE (by unfold maxLen; omega) (by unfold maxLen; omega)
end Go.Proofs.YtjlpkgipdkjfhaaGreatDoor.Bk.Hd
