/- Package head: plain texts; the parts of a text, coded, told to a range over a function. -/
import Derived.Test.YtdhhlcgmkkpldaaGreatDoorHdIt
import Derived.Sort.CutIn
set_option linter.unusedSimpArgs false
set_option linter.unusedVariables false
namespace Go.Proofs.YtdhhlcgmkkpldaaGreatDoor.Hd
open Go.ChangeShapes Go.WideShapes Go.ChangeAt Go.RowKit Go.Shelf
open Bx (raw)
attribute [local go_sem] Oper.semAt_some
theorem contains_any (s t : B) (w : World) (hE : Env w) (hs : s.length ≤ 4000000000) : Calls Tryz.prog 25 #[sV s, sV t] w fun e w' => e = .returned (.bool (Lib.contains s t)) ∧ w' = w := by
  obtain ⟨m, hm⟩ := hE
  have hsz : (ByteArray.mk s.toArray).size = s.length := List.size_toArray
  exact Tryz.strings_Contains ⟨s.toArray⟩ ⟨t.toArray⟩ m w (by omega) hm
theorem pln_rng {s : B} {k : Nat} {x : UInt8} (hx : s[k]? = some x) (h : rng x = false) : pln s = false := by
  unfold pln
  rw [Bool.and_eq_false_iff]
  exact Or.inl (by rw [List.all_eq_false]; exact ⟨x, List.mem_of_getElem? hx, by rw [h]; decide⟩)
theorem pln_bad {s : B} {k : Nat} {x : B} (hx : (splt 32 s)[k]? = some x) (h : okw x = false) : pln s = false := by
  unfold pln
  rw [Bool.and_eq_false_iff]
  exact Or.inr (by rw [List.all_eq_false]; exact ⟨x, List.mem_of_getElem? hx, by rw [h]; decide⟩)
theorem alls_take {p : B → Bool} {s : List B} {k : Nat} {x : B} (h : ∀ j y, j < k → s[j]? = some y → p y = true) (hx : s[k]? = some x) (hp : p x = true) : ∀ j y, j < k + 1 → s[j]? = some y → p y = true := by
  intro j y hj hy
  by_cases q : j = k
  · subst q; rw [hx] at hy; cases hy; exact hp
  · exact h j y (by omega) hy
theorem alls_end {p : B → Bool} {s : List B} (h : ∀ j y, j < s.length → s[j]? = some y → p y = true) : s.all p = true := by
  rw [List.all_eq_true]
  intro x hx
  obtain ⟨i, hi, rfl⟩ := List.mem_iff_getElem.1 hx
  exact h i _ hi (List.getElem?_eq_getElem hi)
/-- where it all lies, while words are looked at -/
structure PlI (r : Nat) (w V : World) : Prop where
  r : Bv 4 r (.bool false) V
  k : Kept w V
  e : Env V
theorem PlI.turn {r n1 : Nat} {w V V' : World} {T : Nat → Prop} (h : PlI r w V) (hE : Env w) (k : Save (Itn T n1) V V') (h0 : w.heap.size ≤ r) (h1 : r < n1) (hT : ∀ k, T k → r < k) : PlI r w V' := by
  have no : ∀ j o, j ≤ r → ¬ Itn T n1 j o := fun j o hj q => by
    rcases q with q | q
    · have := hT j q; omega
    · omega
  exact ⟨h.r.save k (no _ _ (Nat.le_refl _)), Save.kept_of h.k k (fun j o hj => no j o (by omega)), env_save h.e k (fun o => no _ o (by have := env_lt hE; omega))⟩
set_option maxRecDepth 100000 in
set_option maxHeartbeats 4000000 in
theorem plain_any (s : B) (w : World) (hE : Env w) (hl : s.length ≤ 1000000) :
    Calls Tryz.prog 11 #[sV s] w fun e w' => e = .returned (.bool (pln s)) ∧ Kept w w' := by
  have hs : (ByteArray.mk s.toArray).size = s.length := List.size_toArray
  have b0 := Bv.new w (.bool false) 4
  have k0 := (Kept.refl w).alloc (.cells #[.bool false] 4)
  have s0 : (w.alloc (.cells #[.bool false] 4)).heap.size = w.heap.size + 1 := by simp
  have HE := Lib.hid hE
  clear hE
  refine (callsIn_wide (n := 9)).1 ?_
  refine callsIn_of_wp_marks Tryz.func11 rfl trivial ?_ rfl
  simp only [Tryz.ntmps11, List.size_toArray, List.length_cons, List.length_nil, Nat.reduceAdd, Nat.reduceSub, Array.replicate_succ, Array.replicate_zero, List.push_toArray, List.append_toArray, List.nil_append, List.cons_append]
  gi_upto_region 1 with (fail)
  generalize w.alloc (.cells #[.bool false] 4) = x0 at *
  obtain ⟨cp, x1, hcv, hk1, hR1⟩ := to_bytes s x0
  rw [s0] at hcv hR1
  have HR := Lib.hid hR1
  have P1 := Lib.hid (show PlI w.heap.size w x1 from ⟨b0.kept hk1, k0.trans hk1, HE.out.kept (k0.trans hk1)⟩)
  have z1 := hk1.size
  clear hk1 hR1 b0 k0
  gi_wp2
  clear hcv
  gi_loopw [4, 9] (fun _ vi wr => ∃ i : Nat, i ≤ s.length ∧ vi = .int .i64 i ∧ wr = x1 ∧ Hid (∀ j y, j < i → s[j]? = some y → rng y = true)) (fun _ vi _ => s.length - (intOf vi).toNat)
  case atStart => exact ⟨0, Nat.zero_le _, rfl, rfl, Lib.hid (fun j y h => absurd h (Nat.not_lt_zero _))⟩
  case round =>
    obtain ⟨i, hi, rfl, rfl, hA⟩ := hrel
    by_cases hlt : i < s.length
    · have hltI : (i : Int) < s.length := by omega
      obtain ⟨x, hx⟩ : ∃ x, s[i]? = some x := ⟨_, List.getElem?_eq_getElem hlt⟩
      obtain ⟨_, _, _, hv', hcp, cell⟩ := HR.out.at hx
      cases hv'
      rw [Nat.zero_add] at cell
      have HX := Lib.hid hx
      clear hx
      by_cases h1 : (x.toNat : Int) < 32
      · have HQ := Lib.hid (show pln s = false from pln_rng HX.out (by unfold rng; rw [decide_eq_false (by omega)]; rfl))
        have e0 := P1.out.r.c
        have f0 := P1.out.r.frz
        have B9 := P1.out.r.set (.bool false)
        have e9 := B9.c
        have K9 := Lib.hid (P1.out.k.setCell (a := ⟨w.heap.size, 0, none⟩) (Nat.le_refl _) (.bool false))
        clear B9
        gi_wp2
        exact ⟨.bool false, by simp [results, Tryz.results11, go_sem, e9], by rw [HQ.out], K9.out⟩
      · by_cases h2 : 126 < (x.toNat : Int)
        · have HQ := Lib.hid (show pln s = false from pln_rng HX.out (by unfold rng; rw [decide_eq_false (show ¬ x.toNat ≤ 126 by omega)]; exact Bool.and_false _))
          have e0 := P1.out.r.c
          have f0 := P1.out.r.frz
          have B9 := P1.out.r.set (.bool false)
          have e9 := B9.c
          have K9 := Lib.hid (P1.out.k.setCell (a := ⟨w.heap.size, 0, none⟩) (Nat.le_refl _) (.bool false))
          clear B9
          gi_wp2
          exact ⟨.bool false, by simp [results, Tryz.results11, go_sem, e9], by rw [HQ.out], K9.out⟩
        · have HQ := Lib.hid (show rng x = true by unfold rng; rw [decide_eq_true (show 32 ≤ x.toNat by omega), decide_eq_true (show x.toNat ≤ 126 by omega)]; rfl)
          gi_wp2
          exact ⟨⟨i + 1, hlt, by go_num, by trivial, Lib.hid (all_take hA.out HX.out HQ.out)⟩, by simp [intOf]; omega⟩
    · have hltI : ¬ (i : Int) < s.length := by omega
      obtain rfl : i = s.length := by omega
      have HA := Lib.hid (all_end hA.out)
      clear hA
      gi_wp2_with fail
      refine ⟨trivial, ?_⟩
      refine (callsIn_wide.2 (splitSeq_any [32] s _ P1.out.e (by decide) (by decide))).mono ?_
      rintro e W1 ⟨a, b, d, rfl, hC, k4, ⟨ha, hb, hd⟩, ⟨ha1, hb1, hd1⟩, hba, hbd⟩
      gi_wp2
      have F0 : PlI w.heap.size w W1 := ⟨P1.out.r.kept k4, P1.out.k.trans k4, P1.out.e.kept k4⟩
      have z4 := k4.size
      have lt0 := P1.out.r.lt
      have hg := env_lt HE.out
      clear HR P1
      have HIt := split_itr [32] s (by decide) (by decide) (by omega) a b d hba hbd
      rw [spl_one 32 _ s (Nat.le_refl _)] at HIt
      have HWL := Lib.hid (show ∀ k t, (splt 32 s)[k]? = some t → t.length ≤ s.length from fun k t ht => (splt_mem s t (List.mem_of_getElem? ht)).2)
      have HBD := Lib.hid (fun k x h1 h2 => @pln_bad s k x h1 h2)
      have HYS := Lib.hid (show (splt 32 s).all okw = true → pln s = true from fun h => by unfold pln; rw [HA.out, h]; rfl)
      generalize splt 32 s = ws at *
      refine range_itr (n := 9) (gf := 57) (lb := #[.pointer (some ⟨a, 0, none⟩), .pointer (some ⟨b, 0, none⟩), .pointer (some ⟨d, 0, none⟩)]) rfl (enters_of Tryz.func57 (by kernel_rfl) rfl) (T := SqT a b d) (R := RdE) (fun k hk => by rcases hk with rfl | rfl | rfl <;> omega) (fun k hk => by obtain rfl : k = 0 := hk; omega)
        HIt (fun s arr s' hs => by obtain ⟨_, _, rfl, _⟩ := hs; rfl)
        (fun k o => k = w.heap.size ∧ o.isCells = true) (fun k o hk => ⟨⟨fun q => by rcases q with rfl | rfl | rfl <;> omega, fun q => by obtain rfl : k = 0 := q; omega⟩, hk.2⟩) hC (fun A B k h => h.kept k)
        (fun k V => (∀ j y, j < k → ws[j]? = some y → okw y = true) ∧ PlI w.heap.size w V)
        (fun c _ V => c = .ret ∧ pln s = false ∧ PlI w.heap.size w V)
        ?hI ?hIx ⟨fun j y h => absurd h (Nat.not_lt_zero _), F0⟩ ?round ?done ?stop
      case hI =>
        rintro k A B ⟨h1, h2⟩ kb
        exact ⟨h1, h2.turn HE.out kb (Nat.le_refl _) (by omega) (fun k hk => by rcases hk with rfl | rfl | rfl <;> omega)⟩
      case hIx =>
        rintro q k A B ⟨h1, h2, h3⟩ kb
        exact ⟨h1, h2, h3.turn HE.out kb (Nat.le_refl _) (by omega) (fun k hk => by rcases hk with rfl | rfl | rfl <;> omega)⟩
      case round =>
        rintro lo k arr k' V ⟨t, ht, rfl, rfl⟩ ⟨h1, h2⟩ hsz K hK
        have H1 := Lib.hid h1
        have H2 := Lib.hid h2
        have HT := Lib.hid ht
        have htl := HWL.out k t ht
        clear h1 h2 ht
        simp only [List.zip_toArray, List.zip_cons_cons, List.zip_nil_right, List.foldl_toArray, List.foldl_cons, List.foldl_nil, List.setIfInBounds_toArray, List.set_cons_zero, List.set_cons_succ]
        gi_wp2
        refine hK _ _ (Kept.refl V) (fun W2 v2 d2 => ?_)
        have H3 := Lib.hid (H2.out.turn HE.out d2 (Nat.le_refl _) (by omega) (fun k hk => by rcases hk with rfl | rfl | rfl <;> omega))
        clear H2 v2 d2 hK
        by_cases he : t = []
        · subst he
          have HQ := Lib.hid (HBD.out k [] HT.out rfl)
          have e0 := H3.out.r.c
          have f0 := H3.out.r.frz
          have N3 := Lib.hid (show PlI w.heap.size w (W2.setCell ⟨w.heap.size, 0, none⟩ (.bool false)) from ⟨H3.out.r.set _, H3.out.k.setCell (a := ⟨w.heap.size, 0, none⟩) (Nat.le_refl _) _, HE.out.kept (H3.out.k.setCell (a := ⟨w.heap.size, 0, none⟩) (Nat.le_refl _) _)⟩)
          have SV := Lib.hid (Save.set (A := W2) (p := ⟨w.heap.size, 0, none⟩) (.bool false) (M := fun k o => k = w.heap.size ∧ o.isCells = true) (fun o ho => by have := H3.out.r; unfold Bv at this; rw [this] at ho; cases ho; exact ⟨rfl, rfl⟩))
          gi_wp2
          refine ⟨trivial, ?_⟩
          gi_wp2
          exact ⟨SV.out, rfl, HQ.out, N3.out⟩
        · have hte : t.isEmpty = false := by cases t with
            | nil => exact absurd rfl he
            | cons a r => rfl
          have HCo := Lib.hid (contains_any t [61, 63] W2 H3.out.e (by omega))
          rw [hq_eq] at HCo
          have HOK := Lib.hid (show okw t = !hq t by unfold okw; rw [hte]; rfl)
          generalize hq t = bq at *
          gi_wp2_with fail
          refine ⟨trivial, ?_⟩
          refine (callsIn_wide.2 HCo.out).mono ?_
          rintro e W3 ⟨rfl, rfl⟩
          cases bq with
          | true =>
            have HQ := Lib.hid (HBD.out k t HT.out (by rw [HOK.out]; rfl))
            have e0 := H3.out.r.c
            have f0 := H3.out.r.frz
            have N3 := Lib.hid (show PlI w.heap.size w (W3.setCell ⟨w.heap.size, 0, none⟩ (.bool false)) from ⟨H3.out.r.set _, H3.out.k.setCell (a := ⟨w.heap.size, 0, none⟩) (Nat.le_refl _) _, HE.out.kept (H3.out.k.setCell (a := ⟨w.heap.size, 0, none⟩) (Nat.le_refl _) _)⟩)
            have SV := Lib.hid (Save.set (A := W3) (p := ⟨w.heap.size, 0, none⟩) (.bool false) (M := fun k o => k = w.heap.size ∧ o.isCells = true) (fun o ho => by have := H3.out.r; unfold Bv at this; rw [this] at ho; cases ho; exact ⟨rfl, rfl⟩))
            gi_wp2
            exact ⟨SV.out, rfl, HQ.out, N3.out⟩
          | false =>
            have N3 := Lib.hid (alls_take H1.out HT.out (show okw t = true by rw [HOK.out]; rfl))
            gi_wp2
            exact ⟨Save.refl _ _, N3.out, H3.out⟩
      case done =>
        rintro k V hend ⟨h1, h2⟩ hv hK
        subst hend
        have HQ := Lib.hid (HYS.out (alls_end h1))
        have e0 := h2.r.c
        have f0 := h2.r.frz
        have n0 := Lib.hid (h2.r.set (.bool true))
        have K9 := Lib.hid (h2.k.setCell (a := ⟨w.heap.size, 0, none⟩) (Nat.le_refl _) (.bool true))
        clear h1 h2 hv
        gi_wp2
        refine ⟨by simp, .inl ⟨_, _, rfl, run_takeDeferred (set_other hK (by simp only; omega)), ?_⟩⟩
        have vz : Save (fun k _ => k = W1.heap.size) (V.setCell ⟨w.heap.size, 0, none⟩ (.bool true)) _ := Save.put (.deferred none) (fun _ _ => rfl)
        have cz0 := (n0.out.save vz (by omega)).c
        exact ⟨.bool true, by simp [results, Tryz.results11, go_sem, cz0], by rw [HQ.out], kept_put K9.out (by omega) _⟩
      case stop =>
        rintro q k V ⟨rfl, hq, h2⟩ hv hK
        have HQ := Lib.hid hq
        have n0 := Lib.hid h2.r
        have K9 := Lib.hid h2.k
        clear h2 hv hq
        gi_wp2
        refine ⟨by simp, .inl ⟨_, _, rfl, run_takeDeferred hK, ?_⟩⟩
        have vz : Save (fun k _ => k = W1.heap.size) V _ := Save.put (.deferred none) (fun _ _ => rfl)
        have cz0 := (n0.out.save vz (by omega)).c
        exact ⟨.bool false, by simp [results, Tryz.results11, go_sem, cz0], by rw [HQ.out], kept_put K9.out (by omega) _⟩
end Go.Proofs.YtdhhlcgmkkpldaaGreatDoor.Hd
