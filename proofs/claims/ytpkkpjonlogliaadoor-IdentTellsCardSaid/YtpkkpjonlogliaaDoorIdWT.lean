/- The law IdentTells, walked. -/
import Derived.Test.YtpkkpjonlogliaaDoorIdL
import Derived.Deep.CutBlock
set_option linter.unusedSimpArgs false
set_option linter.unusedVariables false
namespace Go.Proofs.YtpkkpjonlogliaaDoor
open Go.ChangeShapes Go.WideShapes Go.ChangeAt Go.RowKit
open En Idn
theorem sm_up' {n m : Nat} {e : Ent} (h : Sm5 n e) (hn : n ≤ m) : Sm5 m e := ⟨by have := h.1; omega, by have := h.2.1; omega, by have := h.2.2.1; omega, by have := h.2.2.2; omega⟩
theorem en_at {g o i : Nat} {a1 a2 a3 a4 : B} {a5 : Int} {x : World} (h : EnAt g (o + i * 5) (a1, a2, a3, a4, a5) x) : x.cell? ⟨g, o + i * 5, none⟩ = some (sV a1) ∧ x.cell? ⟨g, o + i * 5 + 1, none⟩ = some (sV a2) ∧ x.cell? ⟨g, o + i * 5 + 2, none⟩ = some (sV a3) ∧ x.cell? ⟨g, o + i * 5 + 3, none⟩ = some (sV a4) ∧ x.cell? ⟨g, o + i * 5 + 4, none⟩ = some (iV a5) := h
set_option maxRecDepth 100000 in
set_option maxHeartbeats 8000000 in
theorem tells10_walk (s : B) (vk : Value) (K : List B) (v : Value) (l : List Ent) (w : World) (hz : s.length ≤ maxLen) (hk : TxRd vk K w) (hkl : K.length ≤ maxLen) (hks : ∀ s ∈ K, s.length ≤ maxLen) (h : EnRd v l w) (hll : l.length ≤ maxLen) (hE : Env w) :
    Calls Tryd.prog 3 #[.string ⟨s.toArray⟩, vk, v] w fun e w' => e = .returned (.bool true) ∧ Kept w w' := by
  have HE := Lib.hid hE
  have TK := Lib.hid hk
  have HL := Lib.hid h
  have HFew := Lib.hid (fun x (k : Kept w x) => few_any v l 30 x (h.kept k) hll)
  have HFP := Lib.hid (fun (q : decide (FewP 30 l) = true) => of_decide_eq_true q)
  obtain ⟨ak, ck, hvk⟩ := hk.slice
  obtain ⟨al, cl, hvl⟩ := h.slice
  subst hvk hvl
  unfold maxLen at hz hkl hll
  clear hE hk h hks
  generalize decide (FewP 30 l) = fw at *
  go_enter Tryd.func3, Tryd.ntmps3
  go_wp2_with fail
  refine (iawake_any w HE.out).mono ?_
  rintro e x1 ⟨rfl, k1⟩
  have K1 := Lib.hid k1
  clear k1
  go_wp2_with fail
  refine (HFew.out _ K1.out).mono ?_
  rintro e x2 ⟨rfl, hx2⟩
  subst hx2
  clear HFew
  cases hfw : fw with
  | false =>
    go_wp2
    go_ret
    exact ⟨rfl, K1.out⟩
  | true =>
  obtain ⟨hf1, hf2⟩ := HFP.out hfw
  have HSm := Lib.hid hf2
  clear HFP hfw hf2
  by_cases g1 : (300 : Int) < s.length
  · go_wp2
    go_ret
    exact ⟨rfl, K1.out⟩
  by_cases g2 : (30 : Int) < K.length
  · go_wp2
    go_ret
    exact ⟨rfl, K1.out⟩
  go_upto_block 0 with (fail)
  go_cut [] from 32 (fun wx => wx = x1 ∧ Hid (∀ t ∈ K, t.length ≤ 400))
  case first =>
    go_wp2_with fail
    go_loopw [9] (fun vi wr => ∃ i : Nat, vi = .int .i64 i ∧ i ≤ K.length ∧ wr = x1 ∧ Hid (∀ t ∈ K.take i, t.length ≤ 400)) (fun vi _ => K.length - (intOf vi).toNat)
    case atStart => exact ⟨0, rfl, Nat.zero_le _, rfl, Lib.hid (fun c hc => by simp at hc)⟩
    case round =>
      obtain ⟨i, rfl, hi, rfl, hA⟩ := hrel
      by_cases hlt : i < K.length
      · have hltI : (i : Int) < K.length := by omega
        obtain ⟨t, ht⟩ : ∃ t, K[i]? = some t := ⟨_, List.getElem?_eq_getElem hlt⟩
        obtain ⟨-, g, o, rfl, hc, p0⟩ := (TK.out.kept K1.out).at ht
        by_cases h4 : (400 : Int) < t.length
        · clear hA ht
          go_wp2
          go_ret
          exact ⟨rfl, K1.out⟩
        have HN := Lib.hid (show ∀ t ∈ K.take (i + 1), t.length ≤ 400 from by
          rw [List.take_add_one, ht]
          intro d hd
          rw [List.mem_append] at hd
          rcases hd with hd | hd
          · exact hA.out d hd
          · simp at hd; subst hd; omega)
        clear hA ht
        go_wp2
        go_roundw
        case rel => exact ⟨i + 1, by go_num, hlt, trivial, HN⟩
        case measure => simp [intOf]; omega
      · have hltI : ¬ (i : Int) < K.length := by omega
        have HH := Lib.hid (show ∀ t ∈ K, t.length ≤ 400 from by have h2 := hA.out; rwa [List.take_of_length_le (by omega)] at h2)
        go_wp2
        go_meet
        case rel => exact ⟨rfl, HH⟩
  case rest =>
  obtain ⟨hwc, HK4⟩ := hcut
  have hwd := hwc.symm
  clear hwc
  subst hwd
  go_upto_block 2 with (fail)
  go_cut [] from 44 (fun wx => Hid (Kept w wx))
  case first =>
    go_wp2_with fail
    go_loopw [10] (fun vi wr => ∃ i : Nat, vi = .int .i64 i ∧ i ≤ l.length ∧ Hid (Kept w wr)) (fun vi _ => l.length - (intOf vi).toNat)
    case atStart => exact ⟨0, rfl, Nat.zero_le _, K1⟩
    case round =>
      obtain ⟨i, rfl, hi, hKw⟩ := hrel
      by_cases hlt : i < l.length
      · have hltI : (i : Int) < l.length := by omega
        obtain ⟨e, hei⟩ : ∃ e, l[i]? = some e := ⟨_, List.getElem?_eq_getElem hlt⟩
        have hsm := HSm.out e (List.mem_of_getElem? hei)
        have hkl2 := key_len hsm
        have HKey := Lib.hid (fun x (k : Kept w x) => key_any e x (HE.out.kept k) (sm_up' hsm (by omega)))
        have HRKey := Lib.hid (fun x => rkey_any e x (sm_up' hsm (by omega)))
        obtain ⟨-, g, o, rfl, hc, hat0⟩ := (HL.out.kept hKw.out).at hei
        have HA := Lib.hid hat0
        obtain ⟨a1, a2, a3, a4, a5⟩ := e
        clear hat0 hei hsm
        generalize key (a1, a2, a3, a4, a5) = x at *
        have hbx : (x != x) = false := by simp
        go_upto_region 13 with (fail)
        have KD := Lib.hid ((Kept.refl wr).drew)
        refine wp_region_held_drew (S := (fun y => y.cell? ⟨g, o + i * 5, none⟩ = some (sV a1) ∧ y.cell? ⟨g, o + i * 5 + 1, none⟩ = some (sV a2) ∧ y.cell? ⟨g, o + i * 5 + 2, none⟩ = some (sV a3) ∧ y.cell? ⟨g, o + i * 5 + 3, none⟩ = some (sV a4) ∧ y.cell? ⟨g, o + i * 5 + 4, none⟩ = some (iV a5))) (by kernel_rfl) (en_at (HA.out.kept KD.out)) (fun hS0 => ?_)
        refine wpAnyH_take (i := 0) (oi := { dst := some 50, op := Go.Op.move (Go.Operand.tmp 2), type := 23, pos := "law.go:55", after := #[], guard := none }) (v := ?vs0) rfl (by kernel_rfl) (by kernel_rfl) (by kernel_rfl) (fun _ _ _ h => h) (Or.inl ⟨by rfl, ?ys0⟩) (by assumption) ?rs0
        case ys0 => (intro wq hSw; (try dsimp only at hSw); go_simp; try with_reducible rfl)
        simp only [Act.put, List.setIfInBounds_toArray, List.set_cons_zero, List.set_cons_succ]
        refine wpAnyH_take (i := 1) (oi := { dst := some 51, op := Go.Op.move (Go.Operand.tmp 10), type := 3, pos := "law.go:55", after := #[], guard := none }) (v := ?vs1) rfl (by kernel_rfl) (by kernel_rfl) (by kernel_rfl) (fun _ _ _ h => h) (Or.inl ⟨by rfl, ?ys1⟩) (by assumption) ?rs1
        case ys1 => (intro wq hSw; (try dsimp only at hSw); go_simp; try with_reducible rfl)
        simp only [Act.put, List.setIfInBounds_toArray, List.set_cons_zero, List.set_cons_succ]
        refine wpAnyH_take (i := 2) (oi := { dst := some 52, op := Go.Op.indexAddr 23 (Go.Operand.tmp 50) (Go.Operand.tmp 51), type := 0, pos := "law.go:55", after := #[{ on := 0, ground := Go.Ground.data }, { on := 1, ground := Go.Ground.data }], guard := none }) (v := ?vs2) rfl (by kernel_rfl) (by kernel_rfl) (by kernel_rfl) (fun _ _ _ h => h) (Or.inl ⟨by rfl, ?ys2⟩) (by assumption) ?rs2
        case ys2 => (intro wq hSw; (try dsimp only at hSw); go_simp; try with_reducible rfl)
        simp only [Act.put, List.setIfInBounds_toArray, List.set_cons_zero, List.set_cons_succ]
        refine wpAnyH_take (i := 3) (oi := { dst := some 53, op := Go.Op.load 28 (Go.Operand.tmp 52), type := 28, pos := "law.go:55", after := #[{ on := 2, ground := Go.Ground.data }], guard := none }) (v := ?vs3) rfl (by kernel_rfl) (by kernel_rfl) (by kernel_rfl) (fun _ _ _ h => h) (Or.inl ⟨by rfl, ?ys3⟩) (by assumption) ?rs3
        case ys3 => (intro wq hSw; (try dsimp only at hSw); go_simp; try with_reducible rfl)
        simp only [Act.put, List.setIfInBounds_toArray, List.set_cons_zero, List.set_cons_succ]
        refine wpAnyH_take (i := 5) (oi := { dst := some 55, op := Go.Op.move (Go.Operand.tmp 2), type := 23, pos := "law.go:55", after := #[], guard := none }) (v := ?vs5) rfl (by kernel_rfl) (by kernel_rfl) (by kernel_rfl) (fun _ _ _ h => h) (Or.inl ⟨by rfl, ?ys5⟩) (by assumption) ?rs5
        case ys5 => (intro wq hSw; (try dsimp only at hSw); go_simp; try with_reducible rfl)
        simp only [Act.put, List.setIfInBounds_toArray, List.set_cons_zero, List.set_cons_succ]
        refine wpAnyH_take (i := 6) (oi := { dst := some 56, op := Go.Op.move (Go.Operand.tmp 10), type := 3, pos := "law.go:55", after := #[], guard := none }) (v := ?vs6) rfl (by kernel_rfl) (by kernel_rfl) (by kernel_rfl) (fun _ _ _ h => h) (Or.inl ⟨by rfl, ?ys6⟩) (by assumption) ?rs6
        case ys6 => (intro wq hSw; (try dsimp only at hSw); go_simp; try with_reducible rfl)
        simp only [Act.put, List.setIfInBounds_toArray, List.set_cons_zero, List.set_cons_succ]
        refine wpAnyH_take (i := 7) (oi := { dst := some 57, op := Go.Op.indexAddr 23 (Go.Operand.tmp 55) (Go.Operand.tmp 56), type := 0, pos := "law.go:55", after := #[{ on := 5, ground := Go.Ground.data }, { on := 6, ground := Go.Ground.data }], guard := none }) (v := ?vs7) rfl (by kernel_rfl) (by kernel_rfl) (by kernel_rfl) (fun _ _ _ h => h) (Or.inl ⟨by rfl, ?ys7⟩) (by assumption) ?rs7
        case ys7 => (intro wq hSw; (try dsimp only at hSw); go_simp; try with_reducible rfl)
        simp only [Act.put, List.setIfInBounds_toArray, List.set_cons_zero, List.set_cons_succ]
        refine wpAnyH_take (i := 8) (oi := { dst := some 58, op := Go.Op.load 28 (Go.Operand.tmp 57), type := 28, pos := "law.go:55", after := #[{ on := 7, ground := Go.Ground.data }], guard := none }) (v := ?vs8) rfl (by kernel_rfl) (by kernel_rfl) (by kernel_rfl) (fun _ _ _ h => h) (Or.inl ⟨by rfl, ?ys8⟩) (by assumption) ?rs8
        case ys8 => (intro wq hSw; (try dsimp only at hSw); go_simp; try with_reducible rfl)
        simp only [Act.put, List.setIfInBounds_toArray, List.set_cons_zero, List.set_cons_succ]
        refine wpAnyH_ready (rs := [4]) (by kernel_rfl) (by simp) (AllReadyH.cons (o := { dst := some 54, op := Go.Op.call { callee := Go.Callee.value (Go.Operand.func 10), args := #[Go.Operand.tmp 53], argTypes := #[28] }, type := 9, pos := "law.go:55", after := #[{ on := 3, ground := Go.Ground.data }], guard := none }) rfl (fun K hK => ?_) AllReadyH.nil)
        go_simp
        go_at_call 10; refine (HKey.out _ (hKw.out.trans KD.out)).mono ?_
        rintro r v1 ⟨rfl, q1⟩
        have Q1 := Lib.hid (KD.out.trans q1)
        clear q1
        refine Shut.out hK _ _ (en_at (HA.out.kept Q1.out)) (fun hSb => ?_)
        clear hK K
        try simp only [Act.put, List.setIfInBounds_toArray, List.set_cons_zero, List.set_cons_succ]
        refine wpAnyH_ready (rs := [9]) (by kernel_rfl) (by simp) (AllReadyH.cons (o := { dst := some 59, op := Go.Op.call { callee := Go.Callee.value (Go.Operand.func 11), args := #[Go.Operand.tmp 58], argTypes := #[28] }, type := 9, pos := "law.go:55", after := #[{ on := 8, ground := Go.Ground.data }, { on := 4, ground := Go.Ground.chain }], guard := none }) rfl (fun K hK => ?_) AllReadyH.nil)
        go_simp
        go_at_call 11; refine (HRKey.out _).mono ?_
        rintro r v2 ⟨rfl, q2⟩
        have Q2 := Lib.hid (Q1.out.trans q2)
        clear q2
        refine Shut.out hK _ _ (en_at (HA.out.kept Q2.out)) (fun hSb => ?_)
        clear hK K
        try simp only [Act.put, List.setIfInBounds_toArray, List.set_cons_zero, List.set_cons_succ]
        refine wpAnyH_take (i := 10) (oi := { dst := some 60, op := Go.Op.binOp Go.BinOp.neq 9 (Go.Operand.tmp 54) (Go.Operand.tmp 59) 9, type := 4, pos := "law.go:55", after := #[{ on := 4, ground := Go.Ground.data }, { on := 9, ground := Go.Ground.data }], guard := none }) (v := ?vs10) rfl (by kernel_rfl) (by kernel_rfl) (by kernel_rfl) (fun _ _ _ h => h) (Or.inl ⟨by rfl, ?ys10⟩) (by assumption) ?rs10
        case ys10 => (intro wq hSw; (try dsimp only at hSw); go_simp; try with_reducible rfl)
        simp only [Act.put, List.setIfInBounds_toArray, List.set_cons_zero, List.set_cons_succ]
        refine wpAnyH_done (by kernel_rfl) ?_ _
        have K2 := Lib.hid (hKw.out.trans Q2.out)
        clear hSb hS0 Q1 Q2 KD hKw HA HKey HRKey
        go_wp2
        go_roundw
        case rel => exact ⟨i + 1, by go_num, hlt, K2⟩
        case measure => simp [intOf]; omega
      · have hltI : ¬ (i : Int) < l.length := by omega
        go_wp2
        go_meet
        case rel => exact hKw
  case rest =>
  have K2 := hcut
  clear hcut
  have hn1 := norm_len s
  have HF := Lib.hid (fun x (k : Kept w x) => fresh_any _ K _ l x (HE.out.kept k) (TK.out.kept k) (by omega) (fun t ht => by have := HK4.out t ht; unfold maxLen; omega) (HL.out.kept k) (fun e he => sm_up' (HSm.out e he) (by omega)) (by omega))
  have HRF := Lib.hid (fun x (k : Kept w x) => rfresh_any _ K _ l x (TK.out.kept k) (by omega) (HL.out.kept k) (fun e he => sm_up' (HSm.out e he) (by omega)) (by omega))
  have HN := Lib.hid (fun x (k : Kept w x) => norm_any s x (HE.out.kept k) (by omega))
  have HRN := Lib.hid (fun x => rnorm_any s x (by omega))
  have hfl := fr_len l K
  generalize norm s = t at *
  clear HSm HK4
  go_wp2_with fail
  refine (HF.out _ K2.out).mono ?_
  rintro r x3 ⟨v3, rfl, hO3, k3⟩
  have K3 := Lib.hid (K2.out.trans k3)
  have R3 := Lib.hid hO3.rd
  clear hO3 k3 HF
  go_wp2_with fail
  refine (HRF.out _ K3.out).mono ?_
  rintro r x4 ⟨v4, rfl, hO4, k4⟩
  have K4 := Lib.hid (K3.out.trans k4)
  have R4 := Lib.hid hO4.rd
  have R5 := Lib.hid (R3.out.kept k4)
  clear hO4 k4 HRF R3
  go_wp2_with fail
  refine Calls.mono (R := SmP (fr K l) (fr K l) x4) (same_any (fr K l) (fr K l) v3 v4 x4 R5.out R4.out (by omega) (by omega)) ?_
  rintro r x5 ⟨rfl, k5⟩
  rw [decide_eq_true rfl]
  have K5 := Lib.hid (K4.out.trans k5)
  clear k5 R4 R5
  go_wp2_with fail
  refine (HN.out _ K5.out).mono ?_
  rintro r x6 ⟨rfl, k6⟩
  have K6 := Lib.hid (K5.out.trans k6)
  clear k6 HN
  go_wp2_with fail
  refine (HRN.out _).mono ?_
  rintro r x7 ⟨rfl, k7⟩
  have K7 := Lib.hid (K6.out.trans k7)
  clear k7 HRN
  go_wp2
  go_ret
  exact ⟨by simp, K7.out⟩
end Go.Proofs.YtpkkpjonlogliaaDoor
