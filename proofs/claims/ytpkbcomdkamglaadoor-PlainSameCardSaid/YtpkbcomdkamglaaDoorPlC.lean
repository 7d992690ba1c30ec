/- Package plain: a text's first mark. -/
import Derived.Test.YtpkbcomdkamglaaDoorPlK
import Derived.Deep.RegionHeld3
set_option linter.unusedSimpArgs false
set_option linter.unusedVariables false
namespace Go.Proofs.YtpkbcomdkamglaaDoor.Pl
open Go.ChangeShapes Go.WideShapes Go.ChangeAt Go.RowKit
open En
/-- what stands ahead of the next > -/
def bod (r : B) : B := r.takeWhile fun c => c != 62
theorem bod_len : ∀ l : B, (bod l).length ≤ l.length
  | [] => by simp [bod]
  | a :: r => by
    have := bod_len r
    unfold bod at *
    rw [List.takeWhile_cons]; split <;> simp; omega
theorem cut_gt : ∀ (l : B), (Lib.cut l [62]).1 = bod l ∧ (Lib.cut l [62]).2.1 = aft l := by
  have key : ∀ (l : B), (Lib.index l [62] = if (bod l).length < l.length then ((bod l).length : Int) else -1) ∧ l.take (bod l).length = bod l ∧ aft l = l.drop ((bod l).length + 1) := by
    intro l
    induction l with
    | nil => exact ⟨rfl, rfl, rfl⟩
    | cons b l ih =>
      obtain ⟨ih1, ih2, ih3⟩ := ih
      have hle := bod_len l
      rw [Lib.index, ih1]
      by_cases hb : b = 62
      · subst hb
        exact ⟨rfl, rfl, by rw [aft, if_pos rfl]; rfl⟩
      · have e : bod (b :: l) = b :: bod l := by unfold bod; rw [List.takeWhile_cons, if_pos (by simpa using hb)]
        have hp : List.isPrefixOf [62] (b :: l) = false := by
          rw [List.isPrefixOf, List.isPrefixOf, Bool.and_true, beq_eq_false_iff_ne]; exact fun q => hb q.symm
        refine ⟨?_, by rw [e, List.length_cons, List.take_succ_cons, ih2], by rw [aft, if_neg hb, ih3, e, List.length_cons, List.drop_succ_cons]⟩
        rw [hp, e, List.length_cons, List.length_cons]
        by_cases h : (bod l).length < l.length
        · have h2 : (bod l).length + 1 < l.length + 1 := by omega
          have h3 : ((((bod l).length : Int)) == -1) = false := by rw [beq_eq_false_iff_ne]; omega
          rw [if_pos h, if_pos h2, h3, if_neg (by decide), if_neg (by decide)]; omega
        · have h2 : ¬ (bod l).length + 1 < l.length + 1 := by omega
          rw [if_neg h, if_neg h2]; rfl
  intro l
  obtain ⟨k1, k2, k3⟩ := key l
  have hle := bod_len l
  unfold Lib.cut
  rw [k1]
  by_cases h : (bod l).length < l.length
  · rw [if_pos h, if_pos (by omega), Int.toNat_natCast, k2, k3]; exact ⟨rfl, rfl⟩
  · rw [if_neg h, if_neg (by decide)]
    have e : (bod l).length = l.length := by omega
    exact ⟨by rw [← k2, e, List.take_length], by rw [k3, e, List.drop_eq_nil_of_le (by omega)]⟩
theorem tw_bod : ∀ (x : B), (bod x).takeWhile wdB = x.takeWhile wdB
  | [] => rfl
  | c :: r => by
    have ih := tw_bod r
    unfold bod at *
    by_cases h : c = 62
    · subst h; rfl
    · rw [List.takeWhile_cons, if_pos (by simpa using h), List.takeWhile_cons, List.takeWhile_cons, ih]
theorem bod_mark {r : B} (h : opn r = true) : clo (bod r) = clo r ∧ nam (bod r) = nam r := by
  cases r with
  | nil => cases h
  | cons c r =>
    have hc : c ≠ 62 := fun e => by subst e; simp [opn, ltB] at h
    have e : bod (c :: r) = c :: bod r := by unfold bod; rw [List.takeWhile_cons, if_pos (by simpa using hc)]
    have e2 : clo (c :: bod r) = clo (c :: r) := rfl
    refine ⟨by rw [e, e2], ?_⟩
    unfold nam
    congr 1
    rw [← tw_bod (cor (c :: r))]
    congr 1
    rw [e]
    unfold cor
    rw [e2]
    split
    · rfl
    · rw [e]
theorem fm_step {l : B} {i : Nat} {c : UInt8} (h : l[i]? = some c) (hF : fm l = (fm (l.drop i)).map fun p => (l.take i ++ p.1, p.2)) :
    (isM c (l.drop (i + 1)) = true → fm l = some (l.take i, l.drop (i + 1))) ∧ (isM c (l.drop (i + 1)) = false → fm l = (fm (l.drop (i + 1))).map fun p => (l.take (i + 1) ++ p.1, p.2)) := by
  obtain ⟨hi, rfl⟩ := List.getElem?_eq_some_iff.1 h
  have e : l.take (i + 1) = l.take i ++ [l[i]] := by rw [List.take_add_one, h]; rfl
  refine ⟨fun q => ?_, fun q => ?_⟩
  · rw [hF, List.drop_eq_getElem_cons hi, fm, if_pos q]
    rw [Option.map_some, List.append_nil]
  · rw [hF, List.drop_eq_getElem_cons hi, fm, if_neg (by rw [q]; decide), Option.map_map, e]
    congr 1
    funext p
    simp only [Function.comp, List.append_assoc]
    rfl
theorem kept_setRow {w x : World} (h : Kept w x) {g : Nat} (hg : w.heap.size ≤ g) (cs : Array Value) : Kept w (x.setRow g cs) :=
  ⟨h.os, h.output, by rw [setRow_size]; exact h.size, fun k hk => (setRow_other _ _ _ _ (by omega)).trans (h.block k hk), h.tape⟩
/-- what cutMark answers -/
def cmV (l : B) : Value := match fm l with
  | none => .tuple #[.string ⟨l.toArray⟩, mkV [] false, .string ⟨#[]⟩, .bool false]
  | some (a, r) => .tuple #[.string ⟨a.toArray⟩, mkV (nam r) (clo r), .string ⟨(aft r).toArray⟩, .bool true]
set_option maxRecDepth 100000 in
set_option maxHeartbeats 4000000 in
theorem cutMark_any (l : B) (w : World) (hE : EnvP w) (hl : l.length ≤ 100000) : Calls Tryd.prog 18 #[.string ⟨l.toArray⟩] w fun e w' => e = .returned (cmV l) ∧ Kept w w' := by
  have B0 := Lib.hid (Mb.new w [] false)
  have K0 := Lib.hid ((Kept.refl w).alloc (.cells #[.string ⟨([] : B).toArray⟩, .bool false] 41))
  have HE := Lib.hid hE
  clear hE
  go_enter Tryd.func18, Tryd.ntmps18
  go_upto_region 1 with (fail)
  generalize w.alloc (.cells #[.string ⟨#[]⟩, .bool false] 41) = x0 at *
  go_wp2
  go_loopw [12] (fun vi wr => ∃ i : Nat, i ≤ l.length ∧ vi = .int .i64 i ∧ Hid (fm l = (fm (l.drop i)).map fun p => (l.take i ++ p.1, p.2)) ∧ Hid (wr = x0)) (fun vi _ => l.length - (intOf vi).toNat)
  case atStart => exact ⟨0, Nat.zero_le _, rfl, Lib.hid (by simp), Lib.hid rfl⟩
  case round =>
    obtain ⟨i, hi, rfl, hF, hW⟩ := hrel
    obtain rfl := hW.out
    rename_i x0
    clear hW
    by_cases hlt : i < l.length
    · have hltI : (i : Int) < l.length := by omega
      obtain ⟨c, hc⟩ : ∃ c, l[i]? = some c := ⟨_, List.getElem?_eq_getElem hlt⟩
      have hat := byte_at l i c hc
      obtain ⟨s1, s2⟩ := fm_step hc hF.out
      have S1 := Lib.hid s1
      have S2 := Lib.hid s2
      have h60 : ((c.toNat : Int) == 60) = (c == 60) := by rw [Bool.eq_iff_iff, beq_iff_eq, beq_iff_eq, ← UInt8.toNat_inj]; show _ ↔ c.toNat = 60; omega
      clear hF s1 s2 hc
      cases hq : (c == 60) with
      | false =>
        rw [hq] at h60
        have HN := Lib.hid (S2.out (by unfold isM; rw [hq]; rfl))
        clear S1 S2 hq
        go_wp2
        go_roundw
        case rel => exact ⟨i + 1, hlt, by go_num, HN, Lib.hid trivial⟩
        case measure => simp [intOf]; omega
      | true =>
        rw [hq] at h60
        have hcf := cut_from l ((i : Int) + 1) (i + 1) (by omega) (by omega)
        have HO := Lib.hid (fun w => opensMark_any (l.drop (i + 1)) w)
        cases ho : opn (l.drop (i + 1)) with
        | false =>
          rw [ho] at HO
          have HN := Lib.hid (S2.out (by unfold isM; rw [ho, Bool.and_false]))
          clear S1 S2 hq ho
          generalize l.drop (i + 1) = r at HO hcf
          go_wp2_with (go_at_call 30; refine (HO.out _).mono ?_; rintro e w' ⟨rfl, rfl⟩)
          go_roundw
          case rel => exact ⟨i + 1, hlt, by go_num, HN, Lib.hid trivial⟩
          case measure => simp [intOf]; omega
        | true =>
          rw [ho] at HO
          have hF := S1.out (by unfold isM; rw [hq, ho]; rfl)
          obtain ⟨b1, b2⟩ := bod_mark ho
          have HF := Lib.hid (show cmV l = .tuple #[.string ⟨(l.take i).toArray⟩, mkV (nam (l.drop (i + 1))) (clo (l.drop (i + 1))), .string ⟨(aft (l.drop (i + 1))).toArray⟩, .bool true] by unfold cmV; rw [hF])
          have hbl := bod_len (l.drop (i + 1))
          rw [List.length_drop] at hbl
          have HM := Lib.hid (fun w hE => markOf_any (bod (l.drop (i + 1))) w hE (by omega))
          rw [b1, b2] at HM
          obtain ⟨c1, c2⟩ := cut_gt (l.drop (i + 1))
          have HC := Lib.hid (show ∀ w, EnvP w → Calls Tryd.prog 31 #[.string ⟨(l.drop (i + 1)).toArray⟩, .string ⟨#[62]⟩] w fun e w' => (∃ b, e = .returned (.tuple #[.string ⟨(bod (l.drop (i + 1))).toArray⟩, .string ⟨(aft (l.drop (i + 1))).toArray⟩, .bool b])) ∧ Kept w w' from fun w hE => by
            obtain ⟨m, hm⟩ := hE.ml
            refine (Tryd.strings_Cut ⟨(l.drop (i + 1)).toArray⟩ ⟨#[62]⟩ m w (by rw [show (ByteArray.mk (l.drop (i + 1)).toArray).size = (l.drop (i + 1)).length from List.size_toArray, List.length_drop]; omega) hm).mono ?_
            rintro e w' ⟨rfl, n, rfl⟩
            exact ⟨⟨(Lib.cut (l.drop (i + 1)) [62]).2.2, by rw [← c1, ← c2]⟩, (Kept.refl w).drewN n⟩)
          have hct := cut_to l i (by omega)
          clear S1 S2 hq ho hF b1 b2 c1 c2 hbl
          generalize nam (l.drop (i + 1)) = nm at *
          generalize clo (l.drop (i + 1)) = cl at *
          generalize bod (l.drop (i + 1)) = bo at *
          generalize aft (l.drop (i + 1)) = af at *
          generalize l.drop (i + 1) = r at *
          go_wp2_with (first | (go_at_call 30; refine (HO.out _).mono ?_; rintro e w' ⟨rfl, rfl⟩) | (go_at_call 31; refine (HC.out _ (HE.out.kept K0.out)).mono ?_; rintro e w' ⟨⟨b, rfl⟩, k1⟩) | fail)
          have KD := Lib.hid (K0.out.trans (k1.trans (Kept.refl w').drew))
          have BD := Lib.hid (B0.out.kept (k1.trans (Kept.refl w').drew))
          have ED := Lib.hid (HE.out.kept KD.out)
          clear k1
          refine wp_region_held_drew (S := (fun _ => True)) (by kernel_rfl) trivial (fun hS0 => ?_)
          generalize w'.drew = x1 at *
          refine wpAnyH_take (i := 0) (oi := { dst := some 35, op := Go.Op.move (Go.Operand.tmp 0), type := 9, pos := "marks.go:44", after := #[], guard := none }) (v := ?vc0) rfl (by kernel_rfl) (by kernel_rfl) (by kernel_rfl) (fun _ _ _ h => h) (Or.inl ⟨by rfl, ?yc0⟩) (by assumption) ?rc0
          case yc0 => (intro wq hSw; (try dsimp only at hSw); go_simp; try with_reducible rfl)
          simp only [Act.put, List.setIfInBounds_toArray, List.set_cons_zero, List.set_cons_succ]
          refine wpAnyH_take (i := 1) (oi := { dst := some 36, op := Go.Op.move (Go.Operand.tmp 6), type := 3, pos := "marks.go:44", after := #[], guard := none }) (v := ?vc1) rfl (by kernel_rfl) (by kernel_rfl) (by kernel_rfl) (fun _ _ _ h => h) (Or.inl ⟨by rfl, ?yc1⟩) (by assumption) ?rc1
          case yc1 => (intro wq hSw; (try dsimp only at hSw); go_simp; try with_reducible rfl)
          simp only [Act.put, List.setIfInBounds_toArray, List.set_cons_zero, List.set_cons_succ]
          refine wpAnyH_take (i := 2) (oi := { dst := some 37, op := Go.Op.slice 9 (Go.Operand.tmp 35) none (some (Go.Operand.tmp 36)) none, type := 9, pos := "marks.go:44", after := #[{ on := 0, ground := Go.Ground.data }, { on := 1, ground := Go.Ground.data }], guard := none }) (v := ?vc2) rfl (by kernel_rfl) (by kernel_rfl) (by kernel_rfl) (fun _ _ _ h => h) (Or.inl ⟨by rfl, ?yc2⟩) (by assumption) ?rc2
          case yc2 => (intro wq hSw; (try dsimp only at hSw); go_simp; try with_reducible rfl)
          simp only [Act.put, List.setIfInBounds_toArray, List.set_cons_zero, List.set_cons_succ]
          refine wpAnyH_take (i := 3) (oi := { dst := some 38, op := Go.Op.move (Go.Operand.tmp 7), type := 9, pos := "marks.go:44", after := #[], guard := none }) (v := ?vc3) rfl (by kernel_rfl) (by kernel_rfl) (by kernel_rfl) (fun _ _ _ h => h) (Or.inl ⟨by rfl, ?yc3⟩) (by assumption) ?rc3
          case yc3 => (intro wq hSw; (try dsimp only at hSw); go_simp; try with_reducible rfl)
          simp only [Act.put, List.setIfInBounds_toArray, List.set_cons_zero, List.set_cons_succ]
          refine wpAnyH_take (i := 5) (oi := { dst := some 40, op := Go.Op.move (Go.Operand.tmp 8), type := 9, pos := "marks.go:44", after := #[{ on := 7, ground := Go.Ground.gcOnly Go.Departure.lateStores }], guard := none }) (v := ?vc5) rfl (by kernel_rfl) (by kernel_rfl) (by kernel_rfl) (fun _ _ _ h => h) (Or.inl ⟨by rfl, ?yc5⟩) (by assumption) ?rc5
          case yc5 => (intro wq hSw; (try dsimp only at hSw); go_simp; try with_reducible rfl)
          simp only [Act.put, List.setIfInBounds_toArray, List.set_cons_zero, List.set_cons_succ]
          refine wpAnyH_ready (rs := [4]) (by kernel_rfl) (by simp) (AllReadyH.cons (o := { dst := some 39, op := Go.Op.call { callee := Go.Callee.value (Go.Operand.func 32), args := #[Go.Operand.tmp 38], argTypes := #[9] }, type := 41, pos := "marks.go:44", after := #[{ on := 3, ground := Go.Ground.data }], guard := none }) rfl (fun K hK => ?_) AllReadyH.nil)
          go_simp
          refine (HM.out _ ED.out).mono ?_
          rintro e w2 ⟨rfl, k2⟩
          have K2 := Lib.hid (KD.out.trans k2)
          have B2 := Lib.hid (BD.out.kept k2)
          clear k2
          refine Shut.out hK _ _ trivial (fun hSb => ?_)
          clear hK K
          try simp only [Act.put, List.setIfInBounds_toArray, List.set_cons_zero, List.set_cons_succ]
          refine wpAnyH_take (i := 6) (oi := { dst := some 2, op := Go.Op.assign (Go.Operand.tmp 37), type := 9, pos := "marks.go:44", after := #[{ on := 2, ground := Go.Ground.data }, { on := 4, ground := Go.Ground.chain }, { on := 0, ground := Go.Ground.phase }, { on := 1, ground := Go.Ground.phase }, { on := 2, ground := Go.Ground.phase }, { on := 3, ground := Go.Ground.textOnly Go.Departure.lateStores }, { on := 4, ground := Go.Ground.textOnly Go.Departure.lateStoresUnsure }, { on := 5, ground := Go.Ground.textOnly Go.Departure.lateStores }], guard := none }) (v := ?vc6) rfl (by kernel_rfl) (by kernel_rfl) (by kernel_rfl) (fun _ _ _ h => h) (Or.inl ⟨by rfl, ?yc6⟩) (by assumption) ?rc6
          case yc6 => (intro wq hSw; (try dsimp only at hSw); go_simp; try with_reducible rfl)
          simp only [Act.put, List.setIfInBounds_toArray, List.set_cons_zero, List.set_cons_succ]
          refine wpAnyH_ready (rs := [7]) (by kernel_rfl) (by simp) (AllReadyH.cons (o := { dst := none, op := Go.Op.store 41 (Go.Operand.tmp 3) (Go.Operand.tmp 39), type := 0, pos := "marks.go:44", after := #[{ on := 4, ground := Go.Ground.data }, { on := 6, ground := Go.Ground.chain }, { on := 0, ground := Go.Ground.phase }, { on := 1, ground := Go.Ground.phase }, { on := 2, ground := Go.Ground.phase }, { on := 3, ground := Go.Ground.phase }, { on := 4, ground := Go.Ground.phase }, { on := 5, ground := Go.Ground.textOnly Go.Departure.lateStores }, { on := 6, ground := Go.Ground.phase }], guard := none }) rfl (fun K hK => ?_) AllReadyH.nil)
          rw [if_pos (by rfl)]
          refine wp_store_row 41 _ _ rfl w.heap.size #[.string ⟨nm.toArray⟩, .bool cl] rfl rfl 41 _ B2.out (by kernel_rfl) rfl (by simp [Value.oneCell']) ?_
          have B3 := Lib.hid (show Mb w.heap.size nm cl _ from setRow_heap _ _ _ #[.string ⟨nm.toArray⟩, .bool cl] _ _ B2.out)
          have K3 := Lib.hid (kept_setRow K2.out (Nat.le_refl _) #[.string ⟨nm.toArray⟩, .bool cl])
          generalize w2.setRow w.heap.size #[.string ⟨nm.toArray⟩, .bool cl] = x3 at *
          refine Shut.out hK _ _ trivial (fun hSb => ?_)
          clear hK K
          try simp only [Act.put, List.setIfInBounds_toArray, List.set_cons_zero, List.set_cons_succ]
          refine wpAnyH_take (i := 8) (oi := { dst := some 4, op := Go.Op.assign (Go.Operand.tmp 40), type := 9, pos := "marks.go:44", after := #[{ on := 5, ground := Go.Ground.data }, { on := 7, ground := Go.Ground.chain }, { on := 0, ground := Go.Ground.phase }, { on := 1, ground := Go.Ground.phase }, { on := 2, ground := Go.Ground.phase }, { on := 3, ground := Go.Ground.phase }, { on := 4, ground := Go.Ground.phase }, { on := 5, ground := Go.Ground.phase }, { on := 6, ground := Go.Ground.phase }, { on := 7, ground := Go.Ground.phase }], guard := none }) (v := ?vc8) rfl (by kernel_rfl) (by kernel_rfl) (by kernel_rfl) (fun _ _ _ h => h) (Or.inl ⟨by rfl, ?yc8⟩) (by assumption) ?rc8
          case yc8 => (intro wq hSw; (try dsimp only at hSw); go_simp; try with_reducible rfl)
          simp only [Act.put, List.setIfInBounds_toArray, List.set_cons_zero, List.set_cons_succ]
          refine wpAnyH_take (i := 9) (oi := { dst := some 5, op := Go.Op.assign (Go.Operand.const (Go.Value.bool true)), type := 4, pos := "marks.go:44", after := #[{ on := 8, ground := Go.Ground.chain }, { on := 0, ground := Go.Ground.phase }, { on := 1, ground := Go.Ground.phase }, { on := 2, ground := Go.Ground.phase }, { on := 3, ground := Go.Ground.phase }, { on := 4, ground := Go.Ground.phase }, { on := 5, ground := Go.Ground.phase }, { on := 6, ground := Go.Ground.phase }, { on := 7, ground := Go.Ground.phase }, { on := 8, ground := Go.Ground.phase }], guard := none }) (v := ?vc9) rfl (by kernel_rfl) (by kernel_rfl) (by kernel_rfl) (fun _ _ _ h => h) (Or.inl ⟨by rfl, ?yc9⟩) (by assumption) ?rc9
          case yc9 => (intro wq hSw; (try dsimp only at hSw); go_simp; try with_reducible rfl)
          simp only [Act.put, List.setIfInBounds_toArray, List.set_cons_zero, List.set_cons_succ]
          refine wpAnyH_done (by kernel_rfl) ?_ _
          obtain ⟨d0, d1⟩ := B3.out.cells
          go_wp2
          exact bodyPost_ret (v := .tuple #[.string ⟨(l.take i).toArray⟩, mkV nm cl, .string ⟨af.toArray⟩, .bool true]) (by simp [results, Tryd.results18, go_sem, *]) rfl ⟨by rw [HF.out], K3.out⟩
    · obtain rfl : i = l.length := by omega
      have HF := Lib.hid (show cmV l = .tuple #[.string ⟨l.toArray⟩, mkV [] false, .string ⟨#[]⟩, .bool false] by unfold cmV; rw [hF.out]; simp [fm])
      obtain ⟨c0, c1⟩ := B0.out.cells
      have z0 := B0.out.frz 0
      have z1 := B0.out.frz 1
      clear hF
      have M0 := Lib.hid (B0.out.set [] false)
      have K2 := Lib.hid ((K0.out.setCell (a := ⟨w.heap.size, 0, none⟩) (Nat.le_refl _) (.string ⟨#[]⟩)).setCell (a := ⟨w.heap.size, 1, none⟩) (Nat.le_refl _) (.bool false))
      go_wp2
      obtain ⟨d0, d1⟩ := M0.out.cells
      exact bodyPost_ret (v := .tuple #[.string ⟨l.toArray⟩, mkV [] false, .string ⟨#[]⟩, .bool false]) (by simp [results, Tryd.results18, go_sem, *]) rfl ⟨by rw [HF.out], K2.out⟩
end Go.Proofs.YtpkbcomdkamglaaDoor.Pl
