/- Package plain: the mark of what stands between < and >; what follows where something is hidden. -/
import Derived.Test.YtpkbcomdkamglaaDoorPlM
set_option linter.unusedSimpArgs false
set_option linter.unusedVariables false
namespace Go.Proofs.YtpkbcomdkamglaaDoor.Pl
open Go.ChangeShapes Go.WideShapes Go.ChangeAt Go.RowKit
open En
theorem pre_clo (l : B) : Lib.hasPrefix l [47] = clo l := by
  unfold Lib.hasPrefix
  cases l with
  | nil => rfl
  | cons c r =>
    rw [List.isPrefixOf, List.isPrefixOf, Bool.and_true]
    show ((47 : UInt8) == c) = (c == 47)
    rw [Bool.eq_iff_iff, beq_iff_eq, beq_iff_eq]; exact ⟨fun e => e.symm, fun e => e.symm⟩
theorem trim_cor (l : B) : Lib.trimPrefix l [47] = cor l := by
  unfold Lib.trimPrefix cor
  rw [pre_clo]; rfl
theorem cor_len (l : B) : (cor l).length ≤ l.length := by
  unfold cor; split
  · rw [List.length_drop]; omega
  · exact Nat.le_refl _
theorem Mb.frz {b : Nat} {n : B} {c : Bool} {W : World} (h : Mb b n c W) (j : Nat) : W.frozen? ⟨b, j, none⟩ = false := by unfold Mb at h; simp [World.frozen?, h]
theorem Mb.set {b : Nat} {n : B} {c : Bool} {W : World} (h : Mb b n c W) (n' : B) (c' : Bool) : Mb b n' c' ((W.setCell ⟨b, 0, none⟩ (.string ⟨n'.toArray⟩)).setCell ⟨b, 1, none⟩ (.bool c')) := by
  unfold Mb at h ⊢
  simp [World.setCell, Array.getElem?_modify, h]
theorem tw_step {l : B} {i : Nat} {c : UInt8} (h : l[i]? = some c) (q : wdB c = true) (hT : l.takeWhile wdB = l.take i ++ (l.drop i).takeWhile wdB) : l.takeWhile wdB = l.take (i + 1) ++ (l.drop (i + 1)).takeWhile wdB := by
  obtain ⟨hi, rfl⟩ := List.getElem?_eq_some_iff.1 h
  have e : l.take (i + 1) = l.take i ++ [l[i]] := by rw [List.take_add_one, h]; rfl
  rw [hT, e, List.drop_eq_getElem_cons hi, List.takeWhile_cons, if_pos q, List.append_assoc]; rfl
theorem tw_stop {l : B} {i : Nat} (h : ∀ c, l[i]? = some c → wdB c = false) (hT : l.takeWhile wdB = l.take i ++ (l.drop i).takeWhile wdB) : l.takeWhile wdB = l.take i := by
  rw [hT]
  cases hd : l.drop i with
  | nil => simp
  | cons c r =>
    have hi : l[i]? = some c := by
      have := congrArg List.head? hd
      rw [List.head?_drop] at this
      simpa using this
    rw [List.takeWhile_cons, if_neg (by rw [h c hi]; decide)]
    simp
theorem tw_word (l : B) : ∀ c ∈ l.takeWhile wdB, wdB c = true := fun c h => by
  induction l with
  | nil => simp at h
  | cons a r ih =>
    rw [List.takeWhile_cons] at h
    split at h
    · rcases List.mem_cons.1 h with rfl | h
      · assumption
      · exact ih h
    · cases h
set_option maxRecDepth 100000 in
set_option maxHeartbeats 4000000 in
theorem markOf_any (l : B) (w : World) (hE : EnvP w) (hl : l.length ≤ 100000) : Calls Tryd.prog 32 #[.string ⟨l.toArray⟩] w fun e w' => e = .returned (mkV (nam l) (clo l)) ∧ Kept w w' := by
  have B0 := Lib.hid (Mb.new w [] false)
  have K0 := Lib.hid ((Kept.refl w).alloc (.cells #[.string ⟨([] : B).toArray⟩, .bool false] 41))
  have HC := Lib.hid (fun w => cutp l [47] w)
  have hcl := cor_len l
  have HN := Lib.hid (show nam l = lo ((cor l).takeWhile wdB) from rfl)
  have HE := Lib.hid hE
  rw [pre_clo, trim_cor] at HC
  generalize cor l = x at *
  generalize clo l = cl at *
  generalize nam l = z at *
  clear hE
  go_enter Tryd.func32, Tryd.ntmps32
  go_upto_region 1 with (fail)
  generalize w.alloc (.cells #[.string ⟨#[]⟩, .bool false] 41) = x0 at *
  go_wp2_with (go_at_call 35; refine (HC.out _).mono ?_; rintro e w1 ⟨rfl, rfl⟩)
  go_loopw [4] (fun vi wr => ∃ i : Nat, i ≤ x.length ∧ vi = .int .i64 i ∧ Hid (x.takeWhile wdB = x.take i ++ (x.drop i).takeWhile wdB) ∧ Hid (wr = x0)) (fun vi _ => x.length - (intOf vi).toNat)
  case atStart => exact ⟨0, Nat.zero_le _, rfl, Lib.hid (by simp), Lib.hid rfl⟩
  case round =>
    obtain ⟨i, hi, rfl, hT, hW⟩ := hrel
    obtain rfl := hW.out
    clear hW
    have fin : ∀ (hs : ∀ c, x[i]? = some c → wdB c = false), Hid (lo (x.take i) = z ∧ Lib.toLowerD (x.take i) = lo (x.take i)) := fun hs => by
      have e := tw_stop hs hT.out
      refine Lib.hid ⟨by rw [HN.out, e], low_word (fun c hc => ?_)⟩
      rw [← e] at hc
      exact tw_word x c hc
    have F := Lib.hid fin
    clear fin
    have hct := cut_to x i hi
    have HL := Lib.hid (fun w (hE : EnvP w) => lower_any (x.take i) w hE (by rw [List.length_take]; omega))
    have HFin : ∀ (hs : ∀ c, x[i]? = some c → wdB c = false), Hid (∀ w, EnvP w → Calls Tryd.prog 47 #[.string ⟨(x.take i).toArray⟩] w fun e w' => e = .returned (.string ⟨z.toArray⟩) ∧ Kept w w') := fun hs => Lib.hid (fun w hE => by
      have := HL.out w hE
      rw [(F.out hs).out.2, (F.out hs).out.1] at this
      exact this)
    have HF := Lib.hid HFin
    clear HFin F HL
    have fin2 : ∀ (w1 : World), Kept wr w1 → Hid (Mb w.heap.size z cl ((w1.setCell ⟨w.heap.size, 0, none⟩ (.string ⟨z.toArray⟩)).setCell ⟨w.heap.size, 1, none⟩ (.bool cl)) ∧ Kept w ((w1.setCell ⟨w.heap.size, 0, none⟩ (.string ⟨z.toArray⟩)).setCell ⟨w.heap.size, 1, none⟩ (.bool cl))) := fun w1 k1 =>
      Lib.hid ⟨(B0.out.kept k1).set z cl, ((K0.out.trans k1).setCell (Nat.le_refl _) _).setCell (Nat.le_refl _) _⟩
    have F2 := Lib.hid fin2
    clear fin2
    by_cases hlt : i < x.length
    · have hltI : (i : Int) < x.length := by omega
      obtain ⟨c, hc⟩ : ∃ c, x[i]? = some c := ⟨_, List.getElem?_eq_getElem hlt⟩
      have hat := byte_at x i c hc
      have HLt := Lib.hid (fun w => isLetter_any c w)
      have HDg := Lib.hid (fun w => isDigit_any c w)
      cases hw1 : ltB c with
      | true =>
        have HT := Lib.hid (tw_step hc (by unfold wdB; rw [hw1]; rfl) hT.out)
        rw [hw1] at HLt
        clear hc hw1 hT HF F2 HDg hct
        go_wp2_with (go_at_call 44; refine (HLt.out _).mono ?_; rintro e w' ⟨rfl, rfl⟩)
        go_roundw
        case rel => exact ⟨i + 1, hlt, by go_num, HT, Lib.hid trivial⟩
        case measure => simp [intOf]; omega
      | false =>
        rw [hw1] at HLt
        cases hw2 : dgB c with
        | true =>
          have HT := Lib.hid (tw_step hc (by unfold wdB; rw [hw2, Bool.or_true]) hT.out)
          rw [hw2] at HDg
          clear hc hw1 hw2 hT HF F2 hct
          go_wp2_with (first | (go_at_call 44; refine (HLt.out _).mono ?_; rintro e w' ⟨rfl, rfl⟩) | (go_at_call 46; refine (HDg.out _).mono ?_; rintro e w' ⟨rfl, rfl⟩))
          go_roundw
          case rel => exact ⟨i + 1, hlt, by go_num, HT, Lib.hid trivial⟩
          case measure => simp [intOf]; omega
        | false =>
          rw [hw2] at HDg
          have HQ := HF.out (fun c' h' => by rw [hc] at h'; cases h'; unfold wdB; rw [hw1, hw2]; rfl)
          clear hc hw1 hw2 hT HF
          generalize x.take i = y at *
          go_wp2_with (first | (go_at_call 44; refine (HLt.out _).mono ?_; rintro e w' ⟨rfl, rfl⟩) | (go_at_call 46; refine (HDg.out _).mono ?_; rintro e w' ⟨rfl, rfl⟩) | fail)
          refine (HQ.out _ (HE.out.kept K0.out)).mono ?_
          rintro e w1 ⟨rfl, k1⟩
          have Z := F2.out w1 k1
          obtain ⟨c0, c1⟩ := (B0.out.kept k1).cells
          have z0 := (B0.out.kept k1).frz 0
          have z1 := (B0.out.kept k1).frz 1
          clear F2 k1
          go_wp2
          exact bodyPost_ret (v := mkV z cl) (results_cell_row Tryd.results32 _ _ w.heap.size 41 _ (0, 0) _ rfl Z.out.1 Tryd.underlying41 rfl (by kernel_rfl)) rfl ⟨rfl, Z.out.2⟩
    · obtain rfl : i = x.length := by omega
      have HQ := HF.out (fun c' h' => by simp at h')
      clear hT HF
      generalize x.take x.length = y at *
      go_wp2_with fail
      refine (HQ.out _ (HE.out.kept K0.out)).mono ?_
      rintro e w1 ⟨rfl, k1⟩
      have Z := F2.out w1 k1
      obtain ⟨c0, c1⟩ := (B0.out.kept k1).cells
      have z0 := (B0.out.kept k1).frz 0
      have z1 := (B0.out.kept k1).frz 1
      clear F2 k1
      go_wp2
      exact bodyPost_ret (v := mkV z cl) (results_cell_row Tryd.results32 _ _ w.heap.size 41 _ (0, 0) _ rfl Z.out.1 Tryd.underlying41 rfl (by kernel_rfl)) rfl ⟨rfl, Z.out.2⟩
theorem hit_eq (n l : B) : hit n l = (Lib.hasPrefix l [60, 47] && bgn (Lib.trimPrefix l [60, 47]) n) := by
  have h : (l.take 2 == [60, 47]) = Lib.hasPrefix l [60, 47] := by
    unfold Lib.hasPrefix
    rw [Bool.eq_iff_iff, beq_iff_eq, List.isPrefixOf_iff_prefix]
    constructor
    · intro e; exact ⟨l.drop 2, by rw [← e, List.take_append_drop]⟩
    · rintro ⟨t, rfl⟩; rfl
  unfold hit bgn
  rw [h]
  unfold Lib.trimPrefix
  cases Lib.hasPrefix l [60, 47] <;> rfl
theorem skp_at {n l : B} {i : Nat} (hi : i < l.length) : skp n (l.drop i) = if hit n (l.drop i) = true then l.drop i else skp n (l.drop (i + 1)) := by
  rw [List.drop_eq_getElem_cons hi, skp]
theorem trp_len (l : B) (p : B) : (Lib.trimPrefix l p).length ≤ l.length := by
  unfold Lib.trimPrefix; split
  · rw [List.length_drop]; omega
  · exact Nat.le_refl _
theorem hidN_ascii {n : B} (h : hidN n = true) : ∀ x ∈ n, x.toNat < 128 := by
  unfold hidN at h
  simp only [Bool.or_eq_true, beq_iff_eq] at h
  rcases h with rfl | rfl <;> decide
/-- what follows a mark that may hide -/
def hsk (n : B) (c : Bool) (l : B) : B := if (!c && hidN n) = true then skp n l else l
theorem rst_hsk (r : B) : rst r = hsk (nam r) (clo r) (aft r) := rfl
set_option maxRecDepth 100000 in
set_option maxHeartbeats 4000000 in
theorem skipHidden_any (n : B) (c : Bool) (l : B) (w : World) (hE : EnvP w) (hl : l.length ≤ 100000) : Calls Tryd.prog 22 #[mkV n c, .string ⟨l.toArray⟩] w fun e w' => e = .returned (.string ⟨(hsk n c l).toArray⟩) ∧ Kept w w' := by
  have B0 := Lib.hid (Mb.new w n c)
  have K0 := Lib.hid ((Kept.refl w).alloc (.cells #[.string ⟨n.toArray⟩, .bool c] 41))
  have HH := Lib.hid (fun w => hides_any n c w)
  have HE := Lib.hid hE
  clear hE
  cases hh : (!c && hidN n) with
  | false =>
    have HR := Lib.hid (show hsk n c l = l by unfold hsk; rw [hh]; rfl)
    rw [hh] at HH
    clear hh
    go_enter Tryd.func22, Tryd.ntmps22
    go_upto_region 1 with (fail)
    generalize w.alloc (.cells #[.string ⟨n.toArray⟩, .bool c] 41) = x0 at *
    obtain ⟨c0, c1⟩ := B0.out.cells
    go_wp2_with fail
    refine (HH.out _).mono ?_
    rintro e w1 ⟨rfl, k1⟩
    have K1 := K0.out.trans k1
    go_wp2
    go_ret
    exact ⟨by rw [HR.out]; rfl, K1⟩
  | true =>
    have HR := Lib.hid (show hsk n c l = skp n l by unfold hsk; rw [hh]; rfl)
    have HA := Lib.hid (hidN_ascii (show hidN n = true by simp at hh; exact hh.2))
    rw [hh] at HH
    clear hh
    go_enter Tryd.func22, Tryd.ntmps22
    go_upto_region 1 with (fail)
    generalize w.alloc (.cells #[.string ⟨n.toArray⟩, .bool c] 41) = x0 at *
    obtain ⟨c0, c1⟩ := B0.out.cells
    go_wp2_with fail
    refine (HH.out _).mono ?_
    rintro e w1 ⟨rfl, k1⟩
    have K1 := Lib.hid (K0.out.trans k1)
    have B1 := Lib.hid (B0.out.kept k1)
    clear c0 c1 k1 B0 K0 HH
    go_wp2_with fail
    go_loopw [14] (fun vi wr => ∃ i : Nat, i ≤ l.length ∧ vi = .int .i64 i ∧ Hid (skp n l = skp n (l.drop i)) ∧ Hid (Kept w wr) ∧ Hid (Mb w.heap.size n c wr)) (fun vi _ => l.length - (intOf vi).toNat)
    case atStart => exact ⟨0, Nat.zero_le _, rfl, Lib.hid rfl, K1, B1⟩
    case round =>
      obtain ⟨i, hi, rfl, hS, hK, hB⟩ := hrel
      by_cases hlt : i < l.length
      · have hltI : (i : Int) < l.length := by omega
        have hcf := cut_from l (i : Int) i rfl (by omega)
        have HC := Lib.hid (fun w => cutp (l.drop i) [60, 47] w)
        have HS := Lib.hid (skp_at (n := n) hlt)
        rw [hit_eq] at HS
        have HG := Lib.hid (fun w (hE : EnvP w) => beginsWith_any (Lib.trimPrefix (l.drop i) [60, 47]) n w hE (by have := trp_len (l.drop i) [60, 47]; rw [List.length_drop] at this; omega) HA.out)
        obtain ⟨c0, c1⟩ := hB.out.cells
        have HW := Lib.hid (HE.out.kept hK.out)
        generalize Lib.trimPrefix (l.drop i) [60, 47] = y at *
        generalize bgn y n = bg at *
        cases hp : Lib.hasPrefix (l.drop i) [60, 47] with
        | false =>
          rw [hp] at HC HS
          have HN := Lib.hid (show skp n l = skp n (l.drop (i + 1)) by rw [hS.out, HS.out]; rfl)
          clear HS hS hp HG
          generalize l.drop i = z at *
          go_wp2_with (go_at_call 35; refine (HC.out _).mono ?_; rintro e w' ⟨rfl, rfl⟩)
          go_roundw
          case rel => exact ⟨i + 1, hlt, by go_num, HN, hK, hB⟩
          case measure => simp [intOf]; omega
        | true =>
          rw [hp] at HC HS
          cases hb : bg with
          | false =>
            subst hb
            have HN := Lib.hid (show skp n l = skp n (l.drop (i + 1)) by rw [hS.out, HS.out]; rfl)
            clear HS hS hp
            generalize l.drop i = z at *
            go_wp2_with (first | (go_at_call 35; refine (HC.out _).mono ?_; rintro e w' ⟨rfl, rfl⟩) | fail)
            refine (HG.out _ HW.out).mono ?_
            rintro e w2 ⟨rfl, k2⟩
            have K2 := Lib.hid (hK.out.trans k2)
            have B2 := Lib.hid (hB.out.kept k2)
            clear k2
            go_wp2
            go_roundw
            case rel => exact ⟨i + 1, hlt, by go_num, HN, K2, B2⟩
            case measure => simp [intOf]; omega
          | true =>
            subst hb
            have HN := Lib.hid (show skp n l = l.drop i by rw [hS.out, HS.out]; rfl)
            clear HS hS hp
            generalize l.drop i = z at *
            go_wp2_with (first | (go_at_call 35; refine (HC.out _).mono ?_; rintro e w' ⟨rfl, rfl⟩) | fail)
            refine (HG.out _ HW.out).mono ?_
            rintro e w2 ⟨rfl, k2⟩
            have K2 := Lib.hid (hK.out.trans k2)
            clear k2
            go_wp2
            go_ret
            exact ⟨by rw [HR.out, HN.out]; rfl, K2.out⟩
      · obtain rfl : i = l.length := by omega
        have HN := Lib.hid (show skp n l = [] by rw [hS.out]; simp [skp])
        clear hS
        go_wp2
        go_ret
        exact ⟨by rw [HR.out, HN.out]; rfl, hK.out⟩
end Go.Proofs.YtpkbcomdkamglaaDoor.Pl
