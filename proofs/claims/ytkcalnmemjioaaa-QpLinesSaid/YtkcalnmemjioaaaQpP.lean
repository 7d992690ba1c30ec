/- Package qp's digits. -/
import Derived.Test.YtkcalnmemjioaaaQpC
import Derived.Deep.Cut
import Derived.WalkMore
import Derived.Deep.LoopGhost
set_option linter.unusedSimpArgs false
set_option linter.unusedVariables false
namespace Go.Proofs.Ytkcalnmemjioaaa
open Go.ChangeShapes Go.WideShapes Go.ChangeAt Go.RowKit
open Qp
/-- a digit's great letter -/
def up (c : UInt8) : UInt8 := if 97 ≤ c.toNat ∧ c.toNat ≤ 102 then UInt8.ofNat (c.toNat - 32) else c
theorem up_yes : ∀ j, j < 16 → ∀ c, hx j = up c → dg c = some j := by
  have h : ∀ j : Fin 16, ∀ n : Fin 256, hx j.1 = up (UInt8.ofNat n.1) → dg (UInt8.ofNat n.1) = some j.1 := by decide +kernel
  intro j hj c
  have := h ⟨j, hj⟩ ⟨c.toNat, by have := c.toNat_lt; omega⟩
  simpa using this
theorem up_no : ∀ c, (∀ j, j < 16 → hx j ≠ up c) → dg c = none := by
  have h : ∀ n : Fin 256, (∀ j : Fin 16, hx j.1 ≠ up (UInt8.ofNat n.1)) → dg (UInt8.ofNat n.1) = none := by decide +kernel
  intro c hc
  have := h ⟨c.toNat, by have := c.toNat_lt; omega⟩ (fun j => by simpa using hc j.1 j.2)
  simpa using this
/-- what digits are, behind others -/
def vl : Nat → B → Option Nat
  | n, [] => some n
  | n, c :: r => (dg c).bind fun d => vl (16 * n + d) r
/-- two digits' byte -/
def pr (s : B) : Option UInt8 := match s with
  | a :: b :: _ => (dg a).bind fun x => (dg b).map fun y => UInt8.ofNat (16 * x + y)
  | _ => none
theorem pr_vl {a b : UInt8} {r : B} : pr (a :: b :: r) = (vl 0 [a, b]).map UInt8.ofNat := by
  show ((dg a).bind fun x => (dg b).map fun y => UInt8.ofNat (16 * x + y)) = Option.map UInt8.ofNat ((dg a).bind fun d => (dg b).bind fun d_1 => some (16 * (16 * 0 + d) + d_1))
  cases dg a with
  | none => rfl
  | some x =>
    cases dg b with
    | none => rfl
    | some y => simp only [Option.bind_some, Option.map_some, Nat.mul_zero, Nat.zero_add]
theorem u8_same {a b : UInt8} (h : (a.toNat : Int) = b.toNat) : a = b := UInt8.toNat_inj.1 (by omega)
theorem vl_cons (n : Nat) (c : UInt8) (r : B) : vl n (c :: r) = (dg c).bind fun d => vl (16 * n + d) r := rfl
def prV (s : B) : Value := match pr s with
  | some x => .tuple #[.int .u8 x.toNat, .bool true]
  | none => .tuple #[.int .u8 0, .bool false]
set_option maxRecDepth 100000 in
set_option maxHeartbeats 4000000 in
theorem pair_any (s : B) (w : World) (hl : s.length ≤ 1000000000) : Calls Try.prog 21 #[sV s] w fun e w' => e = .returned (prV s) ∧ Kept w w' := by
  have hss : (ByteArray.mk s.toArray).size = s.length := List.size_toArray
  by_cases h2 : s.length < 2
  · have HV := Lib.hid (show prV s = .tuple #[.int .u8 0, .bool false] by
      match s, h2 with
      | [], _ => rfl
      | [a], _ => rfl)
    have h2I : (s.length : Int) < 2 := by omega
    go_enter Try.func21, Try.ntmps21
    go_wp2
    go_ret2
    exact ⟨by rw [HV.out]; rfl, Kept.refl _⟩
  · have hs := cut_to s 2 (by omega)
    obtain ⟨a, b, r, rfl⟩ : ∃ a b r, s = a :: b :: r := by
      match s, h2 with
      | a :: b :: r, _ => exact ⟨a, b, r, rfl⟩
      | [], h => simp at h
      | [a], h => simp at h
    have h2I : ¬ (((a :: b :: r).length : Nat) : Int) < 2 := by omega
    have HV := Lib.hid (show prV (a :: b :: r) = (match (vl 0 [a, b]).map UInt8.ofNat with | some x => .tuple #[.int .u8 x.toNat, .bool true] | none => .tuple #[.int .u8 0, .bool false]) by unfold prV; rw [pr_vl])
    have hs2 : ∀ W, (Instr.slice 9 (.string ⟨(a :: b :: r).toArray⟩) none (some (.int .i64 2)) none).run Try.prog W = .ok (sV [a, b]) W := fun W => hs W
    obtain ⟨cc, y, hcv, ky, hy⟩ := to_bytes [a, b] w
    have KY := Lib.hid ky
    have HY := Lib.hid hy
    clear hs hy ky
    generalize w.heap.size = kb at *
    generalize a :: b :: r = s at *
    go_enter Try.func21, Try.ntmps21
    go_wp2_with fail
    go_loopg [4, 15] 2 (fun g vn vi wr => ∃ i n : Nat, i + g = 2 ∧ (i = 0 ∧ n < 1 ∨ i = 1 ∧ n < 16 ∨ i = 2 ∧ n < 256) ∧ vi = .int .i64 i ∧ vn = .int .i64 n ∧ Hid (vl n ([a, b].drop i) = vl 0 [a, b]) ∧ wr = y)
    case atStart => exact ⟨0, 0, by omega, by omega, rfl, rfl, Lib.hid rfl, rfl⟩
    case round =>
      obtain ⟨i, n, hi, hn, rfl, rfl, hD, rfl⟩ := hrel
      cases gk with
      | succ g1 =>
        have hlt : i < 2 := by omega
        have hltI : (i : Int) < 2 := by omega
        obtain ⟨c, hc⟩ : ∃ c, [a, b][i]? = some c := ⟨_, List.getElem?_eq_getElem hlt⟩
        have HC := Lib.hid (hD.out.symm.trans (by rw [drop_cons hc, vl_cons]))
        obtain ⟨g, o, cp, hv', hcp, cell⟩ := HY.out.at hc
        cases hv'
        rw [Nat.zero_add] at cell
        have HU := Lib.hid (up_yes)
        have HN := Lib.hid (up_no c)
        by_cases hcl : 97 ≤ (c.toNat : Int)
        · by_cases hcu : (c.toNat : Int) ≤ 102
          · have hup : up c = UInt8.ofNat (c.toNat - 32) := by unfold up; rw [if_pos (by omega)]
            have hsub : ((c.toNat : Int) - 32) = ((up c).toNat : Int) := by rw [hup, UInt8.toNat_ofNat']; omega
            clear hup hc
            go_wp2_with fail
            go_step3
            go_wp2_with fail
            go_step3
            go_wp2_with fail
            go_loopg [4, 28] 16 (fun g vn vj wj => ∃ j : Nat, j + g = 16 ∧ vj = .int .i64 j ∧ vn = .int .i64 n ∧ Hid (∀ m, m < j → hx m ≠ up c) ∧ wj = wr)
            case atStart => exact ⟨0, by omega, rfl, rfl, Lib.hid (fun m hm => by omega), rfl⟩
            case round =>
              obtain ⟨j, hj, rfl, rfl, hne, rfl⟩ := hrel
              cases gk with
              | succ g2 =>
                have hjI : (j : Int) < 16 := by omega
                have d1 := hx_at j
                by_cases heq : ((hx j).toNat : Int) = ((up c).toNat : Int)
                · have HD := Lib.hid (HC.out.trans (by rw [HU.out j (by omega) c (u8_same heq), Option.bind_some]))
                  clear HC HV
                  have hnI : (n : Int) < 16 := by omega
                  have m1 : 16 * n + j < 256 := by omega
                  go_wp2_with fail
                  rw [Exit.noGoto_normal]
                  go_wp2_with fail
                  go_roundg g1
                  case measure => omega
                  case rel => exact ⟨i + 1, 16 * n + j, by omega, by omega, by go_num, by go_num, Lib.hid HD.out.symm, rfl⟩
                · go_wp2_with fail
                  go_roundg g2
                  case measure => omega
                  case rel => exact ⟨j + 1, by omega, by go_num, rfl, Lib.hid (fun m hm e => by
                    by_cases hmj : m < j
                    · exact hne.out m hmj e
                    · obtain rfl : m = j := by omega
                      exact heq (by rw [e])), rfl⟩
              | zero =>
                have hjI : ¬ (j : Int) < 16 := by omega
                have HD := Lib.hid (HC.out.trans (by rw [HN.out (fun m hm => hne.out m (by omega)), Option.bind_none]))
                have HF := Lib.hid (HV.out.trans (by rw [HD.out]; rfl : _ = Value.tuple #[.int .u8 0, .bool false]))
                clear HC HV HD
                go_wp2
                try rw [Exit.noGoto_ret]
                go_ret2
                exact ⟨by rw [HF.out]; rfl, KY.out⟩
          · have hup : (c.toNat : Int) = ((up c).toNat : Int) := by unfold up; rw [if_neg (by omega)]
            rw [hup] at cell hcl hcu
            clear hup hc
            go_wp2_with fail
            go_step3
            go_wp2_with fail
            go_step3
            go_wp2_with fail
            go_loopg [4, 28] 16 (fun g vn vj wj => ∃ j : Nat, j + g = 16 ∧ vj = .int .i64 j ∧ vn = .int .i64 n ∧ Hid (∀ m, m < j → hx m ≠ up c) ∧ wj = wr)
            case atStart => exact ⟨0, by omega, rfl, rfl, Lib.hid (fun m hm => by omega), rfl⟩
            case round =>
              obtain ⟨j, hj, rfl, rfl, hne, rfl⟩ := hrel
              cases gk with
              | succ g2 =>
                have hjI : (j : Int) < 16 := by omega
                have d1 := hx_at j
                by_cases heq : ((hx j).toNat : Int) = ((up c).toNat : Int)
                · have HD := Lib.hid (HC.out.trans (by rw [HU.out j (by omega) c (u8_same heq), Option.bind_some]))
                  clear HC HV
                  have hnI : (n : Int) < 16 := by omega
                  have m1 : 16 * n + j < 256 := by omega
                  go_wp2_with fail
                  rw [Exit.noGoto_normal]
                  go_wp2_with fail
                  go_roundg g1
                  case measure => omega
                  case rel => exact ⟨i + 1, 16 * n + j, by omega, by omega, by go_num, by go_num, Lib.hid HD.out.symm, rfl⟩
                · go_wp2_with fail
                  go_roundg g2
                  case measure => omega
                  case rel => exact ⟨j + 1, by omega, by go_num, rfl, Lib.hid (fun m hm e => by
                    by_cases hmj : m < j
                    · exact hne.out m hmj e
                    · obtain rfl : m = j := by omega
                      exact heq (by rw [e])), rfl⟩
              | zero =>
                have hjI : ¬ (j : Int) < 16 := by omega
                have HD := Lib.hid (HC.out.trans (by rw [HN.out (fun m hm => hne.out m (by omega)), Option.bind_none]))
                have HF := Lib.hid (HV.out.trans (by rw [HD.out]; rfl : _ = Value.tuple #[.int .u8 0, .bool false]))
                clear HC HV HD
                go_wp2
                try rw [Exit.noGoto_ret]
                go_ret2
                exact ⟨by rw [HF.out]; rfl, KY.out⟩
        · have hup : (c.toNat : Int) = ((up c).toNat : Int) := by unfold up; rw [if_neg (by omega)]
          rw [hup] at cell hcl
          clear hup hc
          go_wp2_with fail
          go_step3
          go_wp2_with fail
          go_step3
          go_wp2_with fail
          go_loopg [4, 28] 16 (fun g vn vj wj => ∃ j : Nat, j + g = 16 ∧ vj = .int .i64 j ∧ vn = .int .i64 n ∧ Hid (∀ m, m < j → hx m ≠ up c) ∧ wj = wr)
          case atStart => exact ⟨0, by omega, rfl, rfl, Lib.hid (fun m hm => by omega), rfl⟩
          case round =>
            obtain ⟨j, hj, rfl, rfl, hne, rfl⟩ := hrel
            cases gk with
            | succ g2 =>
              have hjI : (j : Int) < 16 := by omega
              have d1 := hx_at j
              by_cases heq : ((hx j).toNat : Int) = ((up c).toNat : Int)
              · have HD := Lib.hid (HC.out.trans (by rw [HU.out j (by omega) c (u8_same heq), Option.bind_some]))
                clear HC HV
                have hnI : (n : Int) < 16 := by omega
                have m1 : 16 * n + j < 256 := by omega
                go_wp2_with fail
                rw [Exit.noGoto_normal]
                go_wp2_with fail
                go_roundg g1
                case measure => omega
                case rel => exact ⟨i + 1, 16 * n + j, by omega, by omega, by go_num, by go_num, Lib.hid HD.out.symm, rfl⟩
              · go_wp2_with fail
                go_roundg g2
                case measure => omega
                case rel => exact ⟨j + 1, by omega, by go_num, rfl, Lib.hid (fun m hm e => by
                  by_cases hmj : m < j
                  · exact hne.out m hmj e
                  · obtain rfl : m = j := by omega
                    exact heq (by rw [e])), rfl⟩
            | zero =>
              have hjI : ¬ (j : Int) < 16 := by omega
              have HD := Lib.hid (HC.out.trans (by rw [HN.out (fun m hm => hne.out m (by omega)), Option.bind_none]))
              have HF := Lib.hid (HV.out.trans (by rw [HD.out]; rfl : _ = Value.tuple #[.int .u8 0, .bool false]))
              clear HC HV HD
              go_wp2
              try rw [Exit.noGoto_ret]
              go_ret2
              exact ⟨by rw [HF.out]; rfl, KY.out⟩
      | zero =>
        have hltI : ¬ (i : Int) < 2 := by omega
        obtain rfl : i = 2 := by omega
        have HF := Lib.hid (HV.out.trans (by rw [← hD.out]; rfl : _ = Value.tuple #[.int .u8 (UInt8.ofNat n).toNat, .bool true]))
        have hw := Lib.hid (show ((UInt8.ofNat n).toNat : Int) = (n : Int) by rw [UInt8.toNat_ofNat']; omega)
        clear HV hD
        go_wp2
        go_ret2
        exact ⟨by rw [HF.out, hw.out]; rfl, KY.out⟩
end Go.Proofs.Ytkcalnmemjioaaa
