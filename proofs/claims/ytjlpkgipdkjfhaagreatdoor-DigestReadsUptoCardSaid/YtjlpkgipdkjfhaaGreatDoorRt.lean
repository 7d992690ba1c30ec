import Derived.Test.YtjlpkgipdkjfhaaGreatDoorQa
import Derived.Deep.Cut
import Derived.WalkMore
import Derived.Deep.LoopGhost
set_option linter.unusedVariables false
set_option linter.unusedSimpArgs false
namespace Go.Proofs.YtjlpkgipdkjfhaaGreatDoor.Bk.Qp
open Go.ChangeShapes Go.WideShapes Go.ChangeAt Go.RowKit
def up (c : UInt8) : UInt8 := if 97 ≤ c.toNat ∧ c.toNat ≤ 102 then UInt8.ofNat (c.toNat - 32) else c
theorem up_yes : ∀ j, j < 16 → ∀ c, hx j = up c → dg c = some j := by
  have h : ∀ j : Fin 16, ∀ n : Fin 256, hx j.1 = up (UInt8.ofNat n.1) → dg (UInt8.ofNat n.1) = some j.1 := by decide +kernel
  intro j hj c
  have := h ⟨j, hj⟩ ⟨c.toNat, by have := c.toNat_lt; omega⟩
  simpa using this
theorem up_no : ∀ c, (∀ j, j < 16 → hx j ≠ up c) → dg c = none := by
  have h : ∀ n : Fin 256, (∀ j : Fin 16, hx j.1 ≠ up (UInt8.ofNat n.1)) → dg (UInt8.ofNat n.1) = none := by decide +kernel
  intro c hc
  have := h ⟨c.toNat, by have := c.toNat_lt; omega⟩ (fun j => by simpa using hc j.1 j.2)
  simpa using this
def vl : Nat → B → Option Nat
  | n, [] => some n
  | n, c :: r => (dg c).bind fun d => vl (16 * n + d) r
def pr (s : B) : Option UInt8 := match s with
  | a :: b :: _ => (dg a).bind fun x => (dg b).map fun y => UInt8.ofNat (16 * x + y)
  | _ => none
theorem pr_vl {a b : UInt8} {r : B} : pr (a :: b :: r) = (vl 0 [a, b]).map UInt8.ofNat := by
  show ((dg a).bind fun x => (dg b).map fun y => UInt8.ofNat (16 * x + y)) = Option.map UInt8.ofNat ((dg a).bind fun d => (dg b).bind fun d_1 => some (16 * (16 * 0 + d) + d_1))
  cases dg a with
  | none => rfl
  | some x =>
    cases dg b with
    | none => rfl
    | some y => simp only [Option.bind_some, Option.map_some, Nat.mul_zero, Nat.zero_add]
theorem u8_same {a b : UInt8} (h : (a.toNat : Int) = b.toNat) : a = b := UInt8.toNat_inj.1 (by omega)
theorem vl_cons (n : Nat) (c : UInt8) (r : B) : vl n (c :: r) = (dg c).bind fun d => vl (16 * n + d) r := rfl
def prV (s : B) : Value := match pr s with
  | some x => .tuple #[.int .u8 x.toNat, .bool true]
  | none => .tuple #[.int .u8 0, .bool false]
set_option maxRecDepth 100000 in
set_option maxHeartbeats 4000000 in
theorem pair_any (s : B) (w : World) (hl : s.length ≤ 1000000000) : Calls Tryz.prog 240 #[sV s] w fun e w' => e = .returned (prV s) ∧ Kept w w' := by
  have hss : (ByteArray.mk s.toArray).size = s.length := List.size_toArray
  by_cases h2 : s.length < 2
  · have HV := Lib.hid (show prV s = .tuple #[.int .u8 0, .bool false] by
      match s, h2 with
      | [], _ => rfl
      | [a], _ => rfl)
    have h2I : (s.length : Int) < 2 := by omega
    go_enter Tryz.func240, Tryz.ntmps240
    go_wp2
    go_ret2
    exact ⟨by rw [HV.out]; rfl, Kept.refl _⟩
  · have hs := cut_to s 2 (by omega)
    obtain ⟨a, b, r, rfl⟩ : ∃ a b r, s = a :: b :: r := by
      match s, h2 with
      | a :: b :: r, _ => exact ⟨a, b, r, rfl⟩
      | [], h => simp at h
      | [a], h => simp at h
    have h2I : ¬ (((a :: b :: r).length : Nat) : Int) < 2 := by omega
    have HV := Lib.hid (show prV (a :: b :: r) = (match (vl 0 [a, b]).map UInt8.ofNat with | some x => .tuple #[.int .u8 x.toNat, .bool true] | none => .tuple #[.int .u8 0, .bool false]) by unfold prV; rw [pr_vl])
    have hs2 : ∀ W, (Instr.slice 9 (.string ⟨(a :: b :: r).toArray⟩) none (some (.int .i64 2)) none).run Tryz.prog W = .ok (sV [a, b]) W := fun W => hs W
    obtain ⟨cc, y, hcv, ky, hy⟩ := to_bytes [a, b] w
    have KY := Lib.hid ky
    have HY := Lib.hid hy
    clear hs hy ky
    generalize w.heap.size = kb at *
    generalize a :: b :: r = s at *
    go_enter Tryz.func240, Tryz.ntmps240
    go_wp2_with fail
    go_loopg [4, 15] 2 (fun g vn vi wr => ∃ i n : Nat, i + g = 2 ∧ (i = 0 ∧ n < 1 ∨ i = 1 ∧ n < 16 ∨ i = 2 ∧ n < 256) ∧ vi = .int .i64 i ∧ vn = .int .i64 n ∧ Hid (vl n ([a, b].drop i) = vl 0 [a, b]) ∧ wr = y)
    case atStart => exact ⟨0, 0, by omega, by omega, rfl, rfl, Lib.hid rfl, rfl⟩
    case round =>
      obtain ⟨i, n, hi, hn, rfl, rfl, hD, rfl⟩ := hrel
      cases gk with
      | succ g1 =>
        have hlt : i < 2 := by omega
        have hltI : (i : Int) < 2 := by omega
        obtain ⟨c, hc⟩ : ∃ c, [a, b][i]? = some c := ⟨_, List.getElem?_eq_getElem hlt⟩
        have HC := Lib.hid (hD.out.symm.trans (by rw [drop_cons hc, vl_cons]))
        obtain ⟨g, o, cp, hv', hcp, cell⟩ := HY.out.at hc
        cases hv'
        rw [Nat.zero_add] at cell
        have HU := Lib.hid (up_yes)
        have HN := Lib.hid (up_no c)
        by_cases hcl : 97 ≤ (c.toNat : Int)
        · by_cases hcu : (c.toNat : Int) ≤ 102
          · have hup : up c = UInt8.ofNat (c.toNat - 32) := by unfold up; rw [if_pos (by omega)]
            have hsub : ((c.toNat : Int) - 32) = ((up c).toNat : Int) := by rw [hup, UInt8.toNat_ofNat']; omega
            clear hup hc
            go_wp2_with fail
            go_step3
            go_wp2_with fail
            go_step3
            go_wp2_with fail
            go_loopg [4, 28] 16 (fun g vn vj wj => ∃ j : Nat, j + g = 16 ∧ vj = .int .i64 j ∧ vn = .int .i64 n ∧ Hid (∀ m, m < j → hx m ≠ up c) ∧ wj = wr)
            case atStart => exact ⟨0, by omega, rfl, rfl, Lib.hid (fun m hm => by omega), rfl⟩
            case round =>
              obtain ⟨j, hj, rfl, rfl, hne, rfl⟩ := hrel
              cases gk with
              | succ g2 =>
                have hjI : (j : Int) < 16 := by omega
                have d1 := hx_at j
                by_cases heq : ((hx j).toNat : Int) = ((up c).toNat : Int)
                · have HD := Lib.hid (HC.out.trans (by rw [HU.out j (by omega) c (u8_same heq), Option.bind_some]))
                  clear HC HV
                  have hnI : (n : Int) < 16 := by omega
                  have m1 : 16 * n + j < 256 := by omega
                  go_wp2_with fail
                  rw [Exit.noGoto_normal]
                  go_wp2_with fail
                  go_roundg g1
                  case measure => omega
                  case rel => exact ⟨i + 1, 16 * n + j, by omega, by omega, by go_num, by go_num, Lib.hid HD.out.symm, rfl⟩
                · go_wp2_with fail
                  go_roundg g2
                  case measure => omega
                  case rel => exact ⟨j + 1, by omega, by go_num, rfl, Lib.hid (fun m hm e => by
                    by_cases hmj : m < j
                    · exact hne.out m hmj e
                    · obtain rfl : m = j := by omega
                      exact heq (by rw [e])), rfl⟩
              | zero =>
                have hjI : ¬ (j : Int) < 16 := by omega
                have HD := Lib.hid (HC.out.trans (by rw [HN.out (fun m hm => hne.out m (by omega)), Option.bind_none]))
                have HF := Lib.hid (HV.out.trans (by rw [HD.out]; rfl : _ = Value.tuple #[.int .u8 0, .bool false]))
                clear HC HV HD
                go_wp2
                try rw [Exit.noGoto_ret]
                go_ret2
                exact ⟨by rw [HF.out]; rfl, KY.out⟩
          · have hup : (c.toNat : Int) = ((up c).toNat : Int) := by unfold up; rw [if_neg (by omega)]
            rw [hup] at cell hcl hcu
            clear hup hc
            go_wp2_with fail
            go_step3
            go_wp2_with fail
            go_step3
            go_wp2_with fail
            go_loopg [4, 28] 16 (fun g vn vj wj => ∃ j : Nat, j + g = 16 ∧ vj = .int .i64 j ∧ vn = .int .i64 n ∧ Hid (∀ m, m < j → hx m ≠ up c) ∧ wj = wr)
            case atStart => exact ⟨0, by omega, rfl, rfl, Lib.hid (fun m hm => by omega), rfl⟩
            case round =>
              obtain ⟨j, hj, rfl, rfl, hne, rfl⟩ := hrel
              cases gk with
              | succ g2 =>
                have hjI : (j : Int) < 16 := by omega
                have d1 := hx_at j
                by_cases heq : ((hx j).toNat : Int) = ((up c).toNat : Int)
                · have HD := Lib.hid (HC.out.trans (by rw [HU.out j (by omega) c (u8_same heq), Option.bind_some]))
                  clear HC HV
                  have hnI : (n : Int) < 16 := by omega
                  have m1 : 16 * n + j < 256 := by omega
                  go_wp2_with fail
                  rw [Exit.noGoto_normal]
                  go_wp2_with fail
                  go_roundg g1
                  case measure => omega
                  case rel => exact ⟨i + 1, 16 * n + j, by omega, by omega, by go_num, by go_num, Lib.hid HD.out.symm, rfl⟩
                · go_wp2_with fail
                  go_roundg g2
                  case measure => omega
                  case rel => exact ⟨j + 1, by omega, by go_num, rfl, Lib.hid (fun m hm e => by
                    by_cases hmj : m < j
                    · exact hne.out m hmj e
                    · obtain rfl : m = j := by omega
                      exact heq (by rw [e])), rfl⟩
              | zero =>
                have hjI : ¬ (j : Int) < 16 := by omega
                have HD := Lib.hid (HC.out.trans (by rw [HN.out (fun m hm => hne.out m (by omega)), Option.bind_none]))
                have HF := Lib.hid (HV.out.trans (by rw [HD.out]; rfl : _ = Value.tuple #[.int .u8 0, .bool false]))
                clear HC HV HD
                go_wp2
                try rw [Exit.noGoto_ret]
                go_ret2
                exact ⟨by rw [HF.out]; rfl, KY.out⟩
        · have hup : (c.toNat : Int) = ((up c).toNat : Int) := by unfold up; rw [if_neg (by omega)]
          rw [hup] at cell hcl
          clear hup hc
          go_wp2_with fail
          go_step3
          go_wp2_with fail
          go_step3
          go_wp2_with fail
          go_loopg [4, 28] 16 (fun g vn vj wj => ∃ j : Nat, j + g = 16 ∧ vj = .int .i64 j ∧ vn = .int .i64 n ∧ Hid (∀ m, m < j → hx m ≠ up c) ∧ wj = wr)
          case atStart => exact ⟨0, by omega, rfl, rfl, Lib.hid (fun m hm => by omega), rfl⟩
          case round =>
            obtain ⟨j, hj, rfl, rfl, hne, rfl⟩ := hrel
            cases gk with
            | succ g2 =>
              have hjI : (j : Int) < 16 := by omega
              have d1 := hx_at j
              by_cases heq : ((hx j).toNat : Int) = ((up c).toNat : Int)
              · have HD := Lib.hid (HC.out.trans (by rw [HU.out j (by omega) c (u8_same heq), Option.bind_some]))
                clear HC HV
                have hnI : (n : Int) < 16 := by omega
                have m1 : 16 * n + j < 256 := by omega
                go_wp2_with fail
                rw [Exit.noGoto_normal]
                go_wp2_with fail
                go_roundg g1
                case measure => omega
                case rel => exact ⟨i + 1, 16 * n + j, by omega, by omega, by go_num, by go_num, Lib.hid HD.out.symm, rfl⟩
              · go_wp2_with fail
                go_roundg g2
                case measure => omega
                case rel => exact ⟨j + 1, by omega, by go_num, rfl, Lib.hid (fun m hm e => by
                  by_cases hmj : m < j
                  · exact hne.out m hmj e
                  · obtain rfl : m = j := by omega
                    exact heq (by rw [e])), rfl⟩
            | zero =>
              have hjI : ¬ (j : Int) < 16 := by omega
              have HD := Lib.hid (HC.out.trans (by rw [HN.out (fun m hm => hne.out m (by omega)), Option.bind_none]))
              have HF := Lib.hid (HV.out.trans (by rw [HD.out]; rfl : _ = Value.tuple #[.int .u8 0, .bool false]))
              clear HC HV HD
              go_wp2
              try rw [Exit.noGoto_ret]
              go_ret2
              exact ⟨by rw [HF.out]; rfl, KY.out⟩
      | zero =>
        have hltI : ¬ (i : Int) < 2 := by omega
        obtain rfl : i = 2 := by omega
        have HF := Lib.hid (HV.out.trans (by rw [← hD.out]; rfl : _ = Value.tuple #[.int .u8 (UInt8.ofNat n).toNat, .bool true]))
        have hw := Lib.hid (show ((UInt8.ofNat n).toNat : Int) = (n : Int) by rw [UInt8.toNat_ofNat']; omega)
        clear HV hD
        go_wp2
        go_ret2
        exact ⟨by rw [HF.out, hw.out]; rfl, KY.out⟩
def fsV (s : B) : Value := match fst s with
  | some (x, k) => .tuple #[.int .u8 x.toNat, .int .i64 k]
  | none => .tuple #[.int .u8 0, .int .i64 0]
theorem fst_eq {c : UInt8} {r : B} (h : c.toNat = 61) : fst (c :: r) = (pr r).map fun x => (x, 3) := by
  unfold fst
  simp only
  rw [if_pos h]
  match r with
  | [] => rfl
  | [a] => rfl
  | a :: b :: r =>
    show ((dg a).bind fun x => (dg b).map fun y => (UInt8.ofNat (16 * x + y), 3)) = Option.map (fun x => (x, 3)) ((dg a).bind fun x => (dg b).map fun y => UInt8.ofNat (16 * x + y))
    cases dg a with
    | none => rfl
    | some x => cases dg b <;> rfl
theorem fst_cr {c : UInt8} {r : B} (h : c.toNat = 13) : fst (c :: r) = if beg [13, 10] (c :: r) = true then some (10, 2) else none := by
  obtain rfl : c = 13 := UInt8.toNat_inj.1 (by rw [h]; rfl)
  unfold fst
  simp only
  rw [if_neg (by decide), if_pos (by rfl)]
  match r with
  | [] => rfl
  | d :: r =>
    unfold beg
    simp only [List.length_cons, List.length_nil, Nat.zero_add, Nat.reduceAdd, List.take_succ_cons, List.take_zero, List.cons.injEq, true_and, and_true, decide_eq_true_eq]
    by_cases hd : d.toNat = 10
    · rw [if_pos hd, if_pos (UInt8.toNat_inj.1 (by rw [hd]; rfl))]
    · rw [if_neg hd, if_neg (fun e => hd (by rw [e]; rfl))]
theorem fst_lit {c : UInt8} {r : B} (h1 : ¬ c.toNat = 61) (h2 : ¬ c.toNat = 13) : fst (c :: r) = if isB c = true ∨ isS c = true then some (c, 1) else none := by
  unfold fst
  simp only
  rw [if_neg h1, if_neg h2]
theorem beg_ne {c : UInt8} {r : B} (h : ¬ c.toNat = 13) : beg [13, 10] (c :: r) = false := by
  unfold beg
  refine decide_eq_false (fun e => ?_)
  simp only [List.length_cons, List.length_nil, Nat.zero_add, Nat.reduceAdd, List.take_succ_cons] at e
  injection e with e _
  exact h (by rw [e]; rfl)
theorem at_0 (c : UInt8) (r : B) (h : 0 < (ByteArray.mk (c :: r).toArray).size) : (ByteArray.mk (c :: r).toArray)[0]'h = c := byte_at (c :: r) 0 c rfl h
set_option maxRecDepth 100000 in
set_option maxHeartbeats 4000000 in
theorem first_any (c : UInt8) (r : B) (w : World) (hl : r.length ≤ 100000000) : Calls Tryz.prog 195 #[sV (c :: r)] w fun e w' => e = .returned (fsV (c :: r)) ∧ Kept w w' := by
  have hss : (ByteArray.mk (c :: r).toArray).size = r.length + 1 := List.size_toArray
  have h0 := at_0 c r
  have hs0 : (0 : Int) < ((r.length + 1 : Nat) : Int) := by omega
  by_cases h1 : (c.toNat : Int) = 61
  · have hc := cut_from (c :: r) 1 1 rfl (by simp)
    rw [List.drop_succ_cons, List.drop_zero] at hc
    have HP := Lib.hid (pair_any r w (by omega))
    have hf := fst_eq (r := r) (show c.toNat = 61 by omega)
    cases hp : pr r with
    | none =>
      have HV := Lib.hid (show fsV (c :: r) = .tuple #[.int .u8 0, .int .i64 0] by unfold fsV; rw [hf, hp]; rfl)
      rw [show prV r = .tuple #[.int .u8 0, .bool false] by unfold prV; rw [hp]] at HP
      clear hf hp
      generalize c :: r = s at *
      go_enter Tryz.func195, Tryz.ntmps195
      go_wp2_with fail
      refine HP.out.mono ?_
      rintro e x ⟨rfl, k⟩
      have K := Lib.hid k
      clear k HP
      go_wp2_with fail
      go_ret2
      exact ⟨by rw [HV.out]; rfl, K.out⟩
    | some y =>
      have HV := Lib.hid (show fsV (c :: r) = .tuple #[.int .u8 y.toNat, .int .i64 3] by unfold fsV; rw [hf, hp]; rfl)
      rw [show prV r = .tuple #[.int .u8 y.toNat, .bool true] by unfold prV; rw [hp]] at HP
      clear hf hp
      generalize c :: r = s at *
      go_enter Tryz.func195, Tryz.ntmps195
      go_wp2_with fail
      refine HP.out.mono ?_
      rintro e x ⟨rfl, k⟩
      have K := Lib.hid k
      clear k HP
      go_wp2_with fail
      go_ret2
      exact ⟨by rw [HV.out]; rfl, K.out⟩
  · have HB := Lib.hid (hasPrefix_any (c :: r) [13, 10] w (by unfold maxLen; simp; omega) (by decide))
    have HS := Lib.hid (isSign_any c w)
    by_cases h2 : (c.toNat : Int) = 13
    · have hf := fst_cr (r := r) (show c.toNat = 13 by omega)
      cases hb : beg [13, 10] (c :: r) with
      | true =>
        have HV := Lib.hid (show fsV (c :: r) = .tuple #[.int .u8 10, .int .i64 2] by unfold fsV; rw [hf, hb]; rfl)
        rw [hb] at HB
        clear hf hb
        generalize c :: r = s at *
        go_enter Tryz.func195, Tryz.ntmps195
        go_wp2_with fail
        refine HB.out.mono ?_
        rintro e x ⟨rfl, rfl⟩
        clear HB HS
        go_wp2_with fail
        go_ret2
        exact ⟨by rw [HV.out]; rfl, Kept.refl _⟩
      | false =>
        have HV := Lib.hid (show fsV (c :: r) = .tuple #[.int .u8 0, .int .i64 0] by unfold fsV; rw [hf, hb]; rfl)
        rw [hb] at HB
        rw [show isS c = false by unfold isS; exact decide_eq_false (by omega), h2] at HS
        clear hf hb
        generalize c :: r = s at *
        go_enter Tryz.func195, Tryz.ntmps195
        go_wp2_with fail
        refine HB.out.mono ?_
        rintro e x ⟨rfl, rfl⟩
        clear HB
        go_wp2_with fail
        refine HS.out.mono ?_
        rintro e x2 ⟨rfl, rfl⟩
        clear HS
        go_wp2_with fail
        go_ret2
        exact ⟨by rw [HV.out]; rfl, Kept.refl _⟩
    · have hf := fst_lit (r := r) (show ¬ c.toNat = 61 by omega) (show ¬ c.toNat = 13 by omega)
      rw [beg_ne (show ¬ c.toNat = 13 by omega)] at HB
      by_cases h3 : (c.toNat : Int) = 32
      · have HV := Lib.hid (show fsV (c :: r) = .tuple #[.int .u8 32, .int .i64 1] by unfold fsV; rw [hf, if_pos (Or.inl (by unfold isB; exact decide_eq_true (by omega))), ← h3]; rfl)
        clear hf HS
        generalize c :: r = s at *
        go_enter Tryz.func195, Tryz.ntmps195
        go_wp2_with fail
        refine HB.out.mono ?_
        rintro e x ⟨rfl, rfl⟩
        clear HB
        go_wp2_with fail
        go_ret2
        exact ⟨by rw [HV.out]; rfl, Kept.refl _⟩
      by_cases h4 : (c.toNat : Int) = 9
      · have HV := Lib.hid (show fsV (c :: r) = .tuple #[.int .u8 9, .int .i64 1] by unfold fsV; rw [hf, if_pos (Or.inl (by unfold isB; exact decide_eq_true (by omega))), ← h4]; rfl)
        clear hf HS
        generalize c :: r = s at *
        go_enter Tryz.func195, Tryz.ntmps195
        go_wp2_with fail
        refine HB.out.mono ?_
        rintro e x ⟨rfl, rfl⟩
        clear HB
        go_wp2_with fail
        go_ret2
        exact ⟨by rw [HV.out]; rfl, Kept.refl _⟩
      have b3 : ((c.toNat : Int) == 32) = false := beq_eq_false_iff_ne.2 h3
      have b4 : ((c.toNat : Int) == 9) = false := beq_eq_false_iff_ne.2 h4
      have hnb : isB c = false := by unfold isB; exact decide_eq_false (by omega)
      cases hs : isS c with
      | true =>
        have HV := Lib.hid (show fsV (c :: r) = .tuple #[.int .u8 c.toNat, .int .i64 1] by unfold fsV; rw [hf, if_pos (Or.inr hs)]; rfl)
        rw [hs] at HS
        clear hf hs hnb
        generalize c :: r = s at *
        go_enter Tryz.func195, Tryz.ntmps195
        go_wp2_with fail
        refine HB.out.mono ?_
        rintro e x ⟨rfl, rfl⟩
        clear HB
        go_wp2_with fail
        refine HS.out.mono ?_
        rintro e x2 ⟨rfl, rfl⟩
        clear HS
        go_wp2_with fail
        go_ret2
        exact ⟨by rw [HV.out]; rfl, Kept.refl _⟩
      | false =>
        have HV := Lib.hid (show fsV (c :: r) = .tuple #[.int .u8 0, .int .i64 0] by unfold fsV; rw [hf, if_neg (by rw [hs, hnb]; decide)])
        rw [hs] at HS
        clear hf hs hnb
        generalize c :: r = s at *
        go_enter Tryz.func195, Tryz.ntmps195
        go_wp2_with fail
        refine HB.out.mono ?_
        rintro e x ⟨rfl, rfl⟩
        clear HB
        go_wp2_with fail
        refine HS.out.mono ?_
        rintro e x2 ⟨rfl, rfl⟩
        clear HS
        go_wp2_with fail
        go_ret2
        exact ⟨by rw [HV.out]; rfl, Kept.refl _⟩
end Go.Proofs.YtjlpkgipdkjfhaaGreatDoor.Bk.Qp
