/- The document's own answers of layer ent: the body of an entity; a text gone through; Decode, Loose. -/
import Derived.Test.YtpkbcomdkamglaaGreatDoorEnRefE
set_option linter.unusedSimpArgs false
set_option linter.unusedVariables false
namespace Go.Proofs.YtpkbcomdkamglaaGreatDoor
open Go.ChangeShapes Go.WideShapes Go.ChangeAt Go.RowKit
open En
/-- an entity's body, from a place on -/
def bdO (l : List UInt8) (at0 : Nat) : Option (List UInt8) := bdF 11 [] (l.drop (at0 + 1))
theorem bdF_nil (n : Nat) (acc : List UInt8) : bdF n acc [] = none := by cases n <;> rfl
theorem sb_ret {a a' : List UInt8} {b b' : Bool} (ha : a = a') (hb : b = b') : Ending.returned (.tuple #[.string ⟨a.toArray⟩, .bool b]) = .returned (.tuple #[.string ⟨a'.toArray⟩, .bool b']) := by rw [ha, hb]
theorem slice_txt (l : List UInt8) (a b : Nat) (x y : Int) (hx : x = a) (hy : y = b) (h1 : a ≤ b) (h2 : b ≤ l.length) (W : World) :
    (Instr.slice 9 (.string ⟨l.toArray⟩) (some (.int .i64 x)) (some (.int .i64 y)) none).run Tryz.prog W = .ok (.string ⟨((l.drop a).take (b - a)).toArray⟩) W := by
  subst hx hy
  rw [run_slice_string W 9 _ .i64 .i64 _ _ Tryz.underlying9 (by omega) (by omega) (by show (b : Int) ≤ l.length; omega)]
  rw [show (a : Int).toNat = a by omega, show (b : Int).toNat = b by omega, ext_mk]
set_option maxRecDepth 100000 in
set_option maxHeartbeats 2000000 in
theorem rbody_any (l : List UInt8) (at0 : Nat) (w : World) (hl : l.length ≤ 1000000) (hat0 : at0 < l.length) : Calls Tryz.prog 58 #[.string ⟨l.toArray⟩, .int .i64 at0] w fun e w' => e = .returned (.tuple #[.string ⟨((bdO l at0).getD []).toArray⟩, .bool (bdO l at0).isSome]) ∧ w = w' := by
  go_enter Tryz.func58, Tryz.ntmps58
  go_wp2_with fail
  go_loopw [6] (fun i y => y = w ∧ ∃ j : Nat, j ≤ 11 ∧ at0 + 1 + j ≤ l.length ∧ i = .int .i64 ((at0 : Int) + 1 + j) ∧ bdO l at0 = bdF (11 - j) ((l.drop (at0 + 1)).take j) (l.drop (at0 + 1 + j))) (fun i _ => l.length - (intOf i).toNat)
  case atStart => exact ⟨rfl, 0, Nat.zero_le _, hat0, by go_num, rfl⟩
  case round =>
    obtain ⟨rfl, j, hj, hlen, rfl, ht⟩ := hrel
    have HT := Lib.hid ht
    clear ht
    by_cases hlt : at0 + 1 + j < l.length
    · have c1 : (at0 : Int) + 1 + j < l.length := by omega
      by_cases h11 : j = 11
      · have HR := Lib.hid (show bdO l at0 = none by rw [HT.out, h11]; rfl)
        have c2 : ¬ (at0 : Int) + 1 + j ≤ at0 + 11 := by omega
        go_wp2
        go_ret2
        exact ⟨by rw [HR.out]; rfl, rfl⟩
      · have c2 : (at0 : Int) + 1 + j ≤ at0 + 11 := by omega
        obtain ⟨a, ha⟩ : ∃ a, l[at0 + 1 + j]? = some a := ⟨_, List.getElem?_eq_getElem hlt⟩
        have HD := Lib.hid (drop_at ha)
        have hat := byte_at l (at0 + 1 + j) a ha
        have HN := Lib.hid (show bdO l at0 = if a = 38 then none else if a = 59 then (if (l.drop (at0 + 1)).take j = [] then none else some ((l.drop (at0 + 1)).take j)) else bdF (11 - (j + 1)) ((l.drop (at0 + 1)).take (j + 1)) (l.drop (at0 + 1 + (j + 1))) by
          rw [HT.out, HD.out, show 11 - j = (11 - (j + 1)) + 1 by omega, bdF]
          have e : (l.drop (at0 + 1)).take (j + 1) = (l.drop (at0 + 1)).take j ++ [a] := by rw [List.take_add_one, List.getElem?_drop, ha]; rfl
          rw [e]; rfl)
        clear ha HT HD
        by_cases g38 : (a.toNat : Int) = 38
        · have HR := Lib.hid (show bdO l at0 = none by rw [HN.out, if_pos (u8_eq g38)])
          have gb : ((a.toNat : Int) == 38) = true := beq_iff_eq.2 g38
          clear g38
          go_wp2
          go_ret2
          exact ⟨by rw [HR.out]; rfl, rfl⟩
        have gb38 : ((a.toNat : Int) == 38) = false := beq_eq_false_iff_ne.2 g38
        have n38 : ¬ a = 38 := u8_ne g38
        by_cases g59 : (a.toNat : Int) = 59
        · have gb : ((a.toNat : Int) == 59) = true := beq_iff_eq.2 g59
          have hsl := slice_txt l (at0 + 1) (at0 + 1 + j) ((at0 : Int) + 1) ((at0 : Int) + 1 + j) (by go_num) (by go_num) (by omega) (by omega) wr
          rw [show at0 + 1 + j - (at0 + 1) = j by omega] at hsl
          by_cases h0 : j = 0
          · have HR := Lib.hid (show bdO l at0 = none by rw [HN.out, if_neg n38, if_pos (u8_eq g59), h0, if_pos (by simp)])
            have HX := Lib.hid (show (l.drop (at0 + 1)).take j = [] by rw [h0]; rfl)
            have c3 : ¬ (at0 : Int) + 1 < at0 + 1 + j := by omega
            clear g59 g38 n38 HN h0 h11
            go_wp2
            go_ret2
            exact ⟨sb_ret (by rw [HR.out, HX.out]; rfl) (by rw [HR.out]; exact decide_eq_false (by omega)), rfl⟩
          · have HR := Lib.hid (show bdO l at0 = some ((l.drop (at0 + 1)).take j) by
              rw [HN.out, if_neg n38, if_pos (u8_eq g59), if_neg (fun e => by have := congrArg List.length e; rw [List.length_take, List.length_drop] at this; simp at this; omega)])
            have c3 : (at0 : Int) + 1 < at0 + 1 + j := by omega
            clear g59 g38 n38 HN h0 h11
            go_wp2
            go_ret2
            exact ⟨sb_ret (by rw [HR.out]; rfl) (by rw [HR.out]; rfl), rfl⟩
        · have HS := Lib.hid (show bdO l at0 = bdF (11 - (j + 1)) ((l.drop (at0 + 1)).take (j + 1)) (l.drop (at0 + 1 + (j + 1))) by rw [HN.out, if_neg n38, if_neg (u8_ne g59)])
          have gb59 : ((a.toNat : Int) == 59) = false := beq_eq_false_iff_ne.2 g59
          clear g59 g38 n38 HN
          go_wp2
          go_roundw
          case rel => exact ⟨trivial, j + 1, by omega, by omega, by go_num, HS.out⟩
          case measure => simp [intOf]; omega
    · have HR := Lib.hid (show bdO l at0 = none by rw [HT.out, show l.drop (at0 + 1 + j) = [] from List.drop_eq_nil_of_le (by omega), bdF_nil])
      have c1 : ¬ (at0 : Int) + 1 + j < l.length := by omega
      go_wp2
      go_ret2
      exact ⟨by rw [HR.out]; rfl, rfl⟩
end Go.Proofs.YtpkbcomdkamglaaGreatDoor
