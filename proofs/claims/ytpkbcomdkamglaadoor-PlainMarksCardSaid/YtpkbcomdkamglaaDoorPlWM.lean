/- A mark without a break, between two texts without marks, joins them; one that breaks has them in two lines. -/
import Derived.Test.YtpkbcomdkamglaaDoorPlLp
set_option linter.unusedSimpArgs false
set_option linter.unusedVariables false
namespace Go.Proofs.YtpkbcomdkamglaaDoor.Pl
open Go.ChangeShapes Go.WideShapes Go.ChangeAt Go.RowKit
open En
def mksL : List B := [[60, 98, 62], [60, 47, 105, 62], [60, 97, 32, 104, 114, 101, 102, 61, 34, 120, 34, 62], [60, 33, 45, 45, 32, 121, 32, 45, 45, 62], [60, 115, 116, 121, 108, 101, 62, 113, 60, 47, 115, 116, 121, 108, 101, 62], [60, 98, 114, 62], [60, 80, 62], [60, 47, 100, 105, 118, 62], [60, 104, 51, 32, 99, 108, 97, 115, 115, 61, 39, 122, 39, 62], [60, 108, 105, 47, 62]]
/-- a mark that hides up to a mark that does not break -/
theorem of_mark2 (a b m m2 : B) (ha : ltP a) (hb : ltP b) (ha0 : a ≠ []) (ho : opn (m ++ b) = true) (hr : rst (m ++ b) = 60 :: (m2 ++ b)) (hn : brk (nam (m ++ b)) = false) (ho2 : opn (m2 ++ b) = true) (hr2 : rst (m2 ++ b) = b) (hn2 : brk (nam (m2 ++ b)) = false) : ofP (a ++ 60 :: (m ++ b)) = a ++ b := by
  have h1 : pcs (a ++ 60 :: (m ++ b)) = [a ++ b] := by
    unfold pcs
    rw [pc_letters a [] _ ha, List.nil_append, pc_mark _ _ ho, hr, if_neg (by rw [hn]; decide), pc_mark _ _ ho2, hr2, if_neg (by rw [hn2]; decide), pc_last a b hb]
  unfold ofP
  rw [h1]
  have hab : ltP (a ++ b) := fun c hc => by
    rcases List.mem_append.1 hc with q | q
    · exact ha c q
    · exact hb c q
  show addL [] (lin (a ++ b)) = _
  rw [lin_lt hab]
  unfold addL
  rw [if_neg (by simp [ha0]), if_pos rfl]
set_option maxRecDepth 100000 in
theorem marks_ok (a b : B) (ha : ltP a) (hb : ltP b) (ha0 : a ≠ []) (hb0 : b ≠ []) : ∀ (k : Nat) (m : B), mksL[k]? = some m → m.length ≤ 20 ∧ ofP (a ++ m ++ b) = if k < 5 then a ++ b else a ++ 10 :: b := by
  intro k m h
  have hk : k < 10 := (List.getElem?_eq_some_iff.1 h).1
  rcases (show k = 0 ∨ k = 1 ∨ k = 2 ∨ k = 3 ∨ k = 4 ∨ k = 5 ∨ k = 6 ∨ k = 7 ∨ k = 8 ∨ k = 9 by omega) with rfl | rfl | rfl | rfl | rfl | rfl | rfl | rfl | rfl | rfl <;> cases h
  · have e := of_mark a b [98, 62] ha hb ha0 hb0 (by rfl) (by rfl)
    rw [show brk (nam ([98, 62] ++ b)) = false by rfl] at e
    refine ⟨by decide, ?_⟩
    rw [if_pos (by decide)]
    simp only [Bool.false_eq_true, if_false] at e
    rw [← e]; simp
  · have e := of_mark a b [47, 105, 62] ha hb ha0 hb0 (by rfl) (by rfl)
    rw [show brk (nam ([47, 105, 62] ++ b)) = false by rfl] at e
    refine ⟨by decide, ?_⟩
    rw [if_pos (by decide)]
    simp only [Bool.false_eq_true, if_false] at e
    rw [← e]; simp
  · have e := of_mark a b [97, 32, 104, 114, 101, 102, 61, 34, 120, 34, 62] ha hb ha0 hb0 (by rfl) (by rfl)
    rw [show brk (nam ([97, 32, 104, 114, 101, 102, 61, 34, 120, 34, 62] ++ b)) = false by rfl] at e
    refine ⟨by decide, ?_⟩
    rw [if_pos (by decide)]
    simp only [Bool.false_eq_true, if_false] at e
    rw [← e]; simp
  · have e := of_mark a b [33, 45, 45, 32, 121, 32, 45, 45, 62] ha hb ha0 hb0 (by rfl) (by rfl)
    rw [show brk (nam ([33, 45, 45, 32, 121, 32, 45, 45, 62] ++ b)) = false by rfl] at e
    refine ⟨by decide, ?_⟩
    rw [if_pos (by decide)]
    simp only [Bool.false_eq_true, if_false] at e
    rw [← e]; simp
  · have h1 : rst ([115, 116, 121, 108, 101, 62, 113, 60, 47, 115, 116, 121, 108, 101, 62] ++ b) = 60 :: ([47, 115, 116, 121, 108, 101, 62] ++ b) := by rfl
    have h2 : rst ([47, 115, 116, 121, 108, 101, 62] ++ b) = b := by rfl
    have e : ofP (a ++ 60 :: ([115, 116, 121, 108, 101, 62, 113, 60, 47, 115, 116, 121, 108, 101, 62] ++ b)) = a ++ b := of_mark2 a b _ _ ha hb ha0 (by rfl) h1 (by rfl) (by rfl) h2 (by rfl)
    exact ⟨by decide, by rw [if_pos (by decide), ← e]; simp⟩
  · have e := of_mark a b [98, 114, 62] ha hb ha0 hb0 (by rfl) (by rfl)
    rw [show brk (nam ([98, 114, 62] ++ b)) = true by rfl] at e
    refine ⟨by decide, ?_⟩
    rw [if_neg (by decide)]
    simp only [if_true] at e
    rw [← e]; simp
  · have e := of_mark a b [80, 62] ha hb ha0 hb0 (by rfl) (by rfl)
    rw [show brk (nam ([80, 62] ++ b)) = true by rfl] at e
    refine ⟨by decide, ?_⟩
    rw [if_neg (by decide)]
    simp only [if_true] at e
    rw [← e]; simp
  · have e := of_mark a b [47, 100, 105, 118, 62] ha hb ha0 hb0 (by rfl) (by rfl)
    rw [show brk (nam ([47, 100, 105, 118, 62] ++ b)) = true by rfl] at e
    refine ⟨by decide, ?_⟩
    rw [if_neg (by decide)]
    simp only [if_true] at e
    rw [← e]; simp
  · have e := of_mark a b [104, 51, 32, 99, 108, 97, 115, 115, 61, 39, 122, 39, 62] ha hb ha0 hb0 (by rfl) (by rfl)
    rw [show brk (nam ([104, 51, 32, 99, 108, 97, 115, 115, 61, 39, 122, 39, 62] ++ b)) = true by rfl] at e
    refine ⟨by decide, ?_⟩
    rw [if_neg (by decide)]
    simp only [if_true] at e
    rw [← e]; simp
  · have e := of_mark a b [108, 105, 47, 62] ha hb ha0 hb0 (by rfl) (by rfl)
    rw [show brk (nam ([108, 105, 47, 62] ++ b)) = true by rfl] at e
    refine ⟨by decide, ?_⟩
    rw [if_neg (by decide)]
    simp only [if_true] at e
    rw [← e]; simp
set_option maxRecDepth 100000 in
set_option maxHeartbeats 8000000 in
theorem marks11_walk (a b : B) (q : Int) (w : World) (hza : a.length ≤ maxLen) (hzb : b.length ≤ maxLen) (n1 : -9223372036854775808 ≤ q) (n2 : q ≤ 9223372036854775807) (hE : EnvP w) : Calls Tryd.prog 5 #[.string ⟨a.toArray⟩, .string ⟨b.toArray⟩, .int .i64 q] w fun e w' => e = .returned (.bool true) ∧ Kept w w' := by
  have HE := Lib.hid hE
  unfold maxLen at hza hzb
  clear hE
  go_enter Tryd.func5, Tryd.ntmps5
  go_wp2_with fail
  refine (awake11_any _ HE.out).mono ?_
  rintro e w1 ⟨rfl, k1⟩
  by_cases g1 : (100 : Int) < a.length
  · go_wp2
    go_ret
    exact ⟨rfl, k1⟩
  by_cases g2 : (100 : Int) < b.length
  · go_wp2
    go_ret
    exact ⟨rfl, k1⟩
  by_cases g3 : q < 0
  · go_wp2
    go_ret
    exact ⟨rfl, k1⟩
  by_cases g4 : 9 < q
  · go_wp2
    go_ret
    exact ⟨rfl, k1⟩
  by_cases g5 : a = []
  · subst g5
    go_wp2
    go_ret
    exact ⟨rfl, k1⟩
  have hae : a.isEmpty = false := by cases a with
    | nil => exact absurd rfl g5
    | cons x r => rfl
  by_cases g6 : b = []
  · subst g6
    clear g5
    go_wp2
    go_ret
    exact ⟨rfl, k1⟩
  have hbe : b.isEmpty = false := by cases b with
    | nil => exact absurd rfl g6
    | cons x r => rfl
  obtain ⟨k, rfl⟩ : ∃ k : Nat, q = k := ⟨q.toNat, by omega⟩
  have hk : k < 10 := by omega
  have hkI : (k : Int) < 10 := by omega
  have K1 := Lib.hid k1
  have G5 := Lib.hid g5
  have G6 := Lib.hid g6
  clear k1 g5 g6
  have happ0 : (⟨a.toArray⟩ ++ ⟨b.toArray⟩ : ByteArray) = ⟨(a ++ b).toArray⟩ := by apply ByteArray.ext; simp [ByteArray.data_append]
  have hbig0 : ¬ 9223372036854775807 < a.length + b.length := by omega
  have hlab : (a ++ b).length = a.length + b.length := List.length_append
  have hab2 : (a ++ b).length ≤ 200 := by omega
  clear hlab
  generalize hab : a ++ b = ab at *
  have HAB := Lib.hid hab
  clear hab
  go_wp2_with fail
  go_loopw [9] (fun vi wr => ∃ i : Nat, i ≤ ab.length ∧ vi = .int .i64 i ∧ Hid (∀ j, j < i → ∀ c, ab[j]? = some c → 97 ≤ c.toNat ∧ c.toNat ≤ 122) ∧ Hid (wr = w1)) (fun vi _ => ab.length - (intOf vi).toNat)
  case atStart => exact ⟨0, Nat.zero_le _, rfl, Lib.hid (fun k hk => by omega), Lib.hid rfl⟩
  case round =>
    obtain ⟨i, hi, rfl, hA, hW⟩ := hrel
    obtain rfl := hW.out
    clear hW
    by_cases hlt : i < ab.length
    · have hltI : (i : Int) < ab.length := by omega
      obtain ⟨c, hc⟩ : ∃ c, ab[i]? = some c := ⟨_, List.getElem?_eq_getElem hlt⟩
      have hat := byte_at ab i c hc
      by_cases h1 : c.toNat < 97
      · have hbI : decide ((c.toNat : Int) < 97) = true := by simp; omega
        clear h1 hc hA
        go_wp2
        go_ret
        exact ⟨rfl, K1.out⟩
      · have hbI : decide ((c.toNat : Int) < 97) = false := by simp; omega
        by_cases h2 : 122 < c.toNat
        · have hbJ : decide ((122 : Int) < c.toNat) = true := by simp; omega
          clear h1 h2 hc hA
          go_wp2
          go_ret
          exact ⟨rfl, K1.out⟩
        · have hbJ : decide ((122 : Int) < c.toNat) = false := by simp; omega
          have HA2 := Lib.hid (show ∀ j, j < i + 1 → ∀ c, ab[j]? = some c → 97 ≤ c.toNat ∧ c.toNat ≤ 122 from fun j hj c' hc' => by
            by_cases e : j = i
            · subst e; rw [hc] at hc'; cases hc'; omega
            · exact hA.out j (by omega) c' hc')
          clear h1 h2 hc hA
          go_wp2
          go_roundw
          case rel => exact ⟨i + 1, hlt, by go_num, HA2, Lib.hid trivial⟩
          case measure => simp [intOf]; omega
    · obtain rfl : i = ab.length := by omega
      have hall : ∀ c ∈ ab, 97 ≤ c.toNat ∧ c.toNat ≤ 122 := fun c hc => by
        obtain ⟨j, hj, e⟩ := List.mem_iff_getElem.1 hc
        exact hA.out j hj c (by rw [List.getElem?_eq_getElem hj, e])
      have hpa : ltP a := fun c hc => hall c (by rw [← HAB.out]; simp [hc])
      have hpb : ltP b := fun c hc => hall c (by rw [← HAB.out]; simp [hc])
      obtain ⟨m, hm⟩ : ∃ m, mksL[k]? = some m := ⟨_, List.getElem?_eq_getElem (show k < mksL.length from hk)⟩
      obtain ⟨hml, hmo⟩ := marks_ok a b hpa hpb G5.out G6.out k m hm
      have HO := Lib.hid (fun w hE => of_any (a ++ m ++ b) w hE (by simp; omega))
      have hal := (Kept.refl wr).alloc (.cells #[.string ⟨#[60, 98, 62]⟩, .string ⟨#[60, 47, 105, 62]⟩, .string ⟨#[60, 97, 32, 104, 114, 101, 102, 61, 34, 120, 34, 62]⟩, .string ⟨#[60, 33, 45, 45, 32, 121, 32, 45, 45, 62]⟩, .string ⟨#[60, 115, 116, 121, 108, 101, 62, 113, 60, 47, 115, 116, 121, 108, 101, 62]⟩, .string ⟨#[60, 98, 114, 62]⟩, .string ⟨#[60, 80, 62]⟩, .string ⟨#[60, 47, 100, 105, 118, 62]⟩, .string ⟨#[60, 104, 51, 32, 99, 108, 97, 115, 115, 61, 39, 122, 39, 62]⟩, .string ⟨#[60, 108, 105, 47, 62]⟩] 9)
      have hcl := (Kept.refl (wr.alloc (.cells #[.string ⟨#[60, 98, 62]⟩, .string ⟨#[60, 47, 105, 62]⟩, .string ⟨#[60, 97, 32, 104, 114, 101, 102, 61, 34, 120, 34, 62]⟩, .string ⟨#[60, 33, 45, 45, 32, 121, 32, 45, 45, 62]⟩, .string ⟨#[60, 115, 116, 121, 108, 101, 62, 113, 60, 47, 115, 116, 121, 108, 101, 62]⟩, .string ⟨#[60, 98, 114, 62]⟩, .string ⟨#[60, 80, 62]⟩, .string ⟨#[60, 47, 100, 105, 118, 62]⟩, .string ⟨#[60, 104, 51, 32, 99, 108, 97, 115, 115, 61, 39, 122, 39, 62]⟩, .string ⟨#[60, 108, 105, 47, 62]⟩] 9))).new k (v := sV m) (by
        have e : (#[.string ⟨#[60, 98, 62]⟩, .string ⟨#[60, 47, 105, 62]⟩, .string ⟨#[60, 97, 32, 104, 114, 101, 102, 61, 34, 120, 34, 62]⟩, .string ⟨#[60, 33, 45, 45, 32, 121, 32, 45, 45, 62]⟩, .string ⟨#[60, 115, 116, 121, 108, 101, 62, 113, 60, 47, 115, 116, 121, 108, 101, 62]⟩, .string ⟨#[60, 98, 114, 62]⟩, .string ⟨#[60, 80, 62]⟩, .string ⟨#[60, 47, 100, 105, 118, 62]⟩, .string ⟨#[60, 104, 51, 32, 99, 108, 97, 115, 115, 61, 39, 122, 39, 62]⟩, .string ⟨#[60, 108, 105, 47, 62]⟩] : Array Value)[k]? = (mksL[k]?).map sV := by
          rw [show (#[.string ⟨#[60, 98, 62]⟩, .string ⟨#[60, 47, 105, 62]⟩, .string ⟨#[60, 97, 32, 104, 114, 101, 102, 61, 34, 120, 34, 62]⟩, .string ⟨#[60, 33, 45, 45, 32, 121, 32, 45, 45, 62]⟩, .string ⟨#[60, 115, 116, 121, 108, 101, 62, 113, 60, 47, 115, 116, 121, 108, 101, 62]⟩, .string ⟨#[60, 98, 114, 62]⟩, .string ⟨#[60, 80, 62]⟩, .string ⟨#[60, 47, 100, 105, 118, 62]⟩, .string ⟨#[60, 104, 51, 32, 99, 108, 97, 115, 115, 61, 39, 122, 39, 62]⟩, .string ⟨#[60, 108, 105, 47, 62]⟩] : Array Value) = (mksL.map sV).toArray from rfl, List.getElem?_toArray, List.getElem?_map]
        rw [e, hm]; rfl)
      have K2 := Lib.hid (K1.out.trans hal)
      clear hal hm hall hpa hpb hA
      go_upto_region 11 with (fail)
      generalize wr.alloc (.cells #[.string ⟨#[60, 98, 62]⟩, .string ⟨#[60, 47, 105, 62]⟩, .string ⟨#[60, 97, 32, 104, 114, 101, 102, 61, 34, 120, 34, 62]⟩, .string ⟨#[60, 33, 45, 45, 32, 121, 32, 45, 45, 62]⟩, .string ⟨#[60, 115, 116, 121, 108, 101, 62, 113, 60, 47, 115, 116, 121, 108, 101, 62]⟩, .string ⟨#[60, 98, 114, 62]⟩, .string ⟨#[60, 80, 62]⟩, .string ⟨#[60, 47, 100, 105, 118, 62]⟩, .string ⟨#[60, 104, 51, 32, 99, 108, 97, 115, 115, 61, 39, 122, 39, 62]⟩, .string ⟨#[60, 108, 105, 47, 62]⟩] 9) = x2 at *
      have happ1 : (⟨a.toArray⟩ ++ ⟨m.toArray⟩ : ByteArray) = ⟨(a ++ m).toArray⟩ := by apply ByteArray.ext; simp [ByteArray.data_append]
      have happ2 : (⟨(a ++ m).toArray⟩ ++ ⟨b.toArray⟩ : ByteArray) = ⟨(a ++ m ++ b).toArray⟩ := by apply ByteArray.ext; simp [ByteArray.data_append]
      have hbig1 : ¬ 9223372036854775807 < a.length + m.length := by omega
      have hlam : (a ++ m).length ≤ 120 := by simp; omega
      have hbig2 : ¬ 9223372036854775807 < (a ++ m).length + b.length := by omega
      by_cases h5 : k < 5
      · have h5I : (k : Int) < 5 := by omega
        rw [if_pos h5, HAB.out] at hmo
        rw [hmo] at HO
        clear hmo h5
        generalize a ++ m ++ b = y at *
        generalize a ++ m = am at *
        go_wp2_with fail
        refine (HO.out _ (HE.out.kept K2.out)).mono ?_
        rintro e w5 ⟨rfl, k5⟩
        have K5 := K2.out.trans k5
        go_wp2
        go_ret
        exact ⟨by simp, K5⟩
      · have h5I : ¬ (k : Int) < 5 := by omega
        rw [if_neg h5] at hmo
        rw [hmo] at HO
        have happ3 : (⟨a.toArray⟩ ++ ⟨#[10]⟩ : ByteArray) = ⟨(a ++ [10]).toArray⟩ := by rw [show (⟨#[10]⟩ : ByteArray) = ⟨([10] : B).toArray⟩ from rfl]; apply ByteArray.ext; simp [ByteArray.data_append]
        have happ4 : (⟨(a ++ [10]).toArray⟩ ++ ⟨b.toArray⟩ : ByteArray) = ⟨(a ++ 10 :: b).toArray⟩ := by apply ByteArray.ext; simp [ByteArray.data_append]
        have hbig3 : ¬ 9223372036854775807 < a.length + 1 := by omega
        have hl10 : (a ++ [10]).length ≤ 101 := by simp; omega
        have hbig4 : ¬ 9223372036854775807 < (a ++ [10]).length + b.length := by omega
        clear hmo h5
        generalize a ++ m ++ b = y at *
        generalize a ++ m = am at *
        generalize a ++ 10 :: b = y2 at *
        generalize a ++ [10] = a1 at *
        go_wp2_with fail
        refine (HO.out _ (HE.out.kept K2.out)).mono ?_
        rintro e w5 ⟨rfl, k5⟩
        have K5 := K2.out.trans k5
        go_wp2
        go_ret
        exact ⟨by simp, K5⟩
end Go.Proofs.YtpkbcomdkamglaaDoor.Pl
