import Derived.Test.YtjlpkgipdkjfhaaGreatDoorPtRa
import Derived.Test.YtjlpkgipdkjfhaaGreatDoorPtW
set_option linter.unusedVariables false
set_option linter.unusedSimpArgs false
namespace Go.Proofs.YtjlpkgipdkjfhaaGreatDoor.Bk.Pt
open Go.ChangeShapes Go.WideShapes Go.ChangeAt Go.RowKit Go.Shelf
theorem bnd_len (n : Nat) : (bnd n).length ≤ n + 3 := by
  have := dec_len n n (Nat.le_refl _)
  unfold bnd; simp; omega
theorem bnd_ne (n : Nat) : bnd n ≠ [] := by unfold bnd; simp
theorem at_zero (s x : B) : atV s x 0 = Lib.index s x := by
  unfold atV
  rw [List.drop_zero]
  split
  · rename_i h; exact h.symm
  · simp
theorem all_snoc {l : List B} {i : Nat} {b : B} (h : l[i]? = some b) (n : Nat) : n ∈ all (l.take (i + 1)) ↔ n ∈ all (l.take i) ∨ n ∈ nums b := by
  unfold all
  rw [List.take_add_one, h]
  simp
set_option maxRecDepth 100000 in
set_option maxHeartbeats 4000000 in
theorem rboundary_any (v : Value) (l : List B) (w : World) (hR : LRd v l w) (hb : ∀ b ∈ l, b.length ≤ 9000000) (hs : sum l ≤ 9000000) (hl : l.length ≤ 9000000) :
    Calls Tryz.prog 69 #[v] w fun e w' => e = .returned (sV (bdy l)) ∧ w' = w := by
  obtain ⟨va, vc, rfl⟩ := hR.slice
  have HR := Lib.hid hR
  have HB := Lib.hid hb
  have hfl := free_le (all l)
  have hal := all_len l
  have hf9 : free (all l) ≤ 9000000 := by omega
  clear hR hb hfl hal
  go_enter Tryz.func69, Tryz.ntmps69
  go_wp2_with fail
  go_loopw [3, 4, 5, 6] (fun vn _ _ _ wr => ∃ n : Nat, n ≤ free (all l) ∧ vn = .int .i64 n ∧ w = wr) (fun vn _ _ _ _ => free (all l) - (intOf vn).toNat)
  case atStart => exact ⟨0, Nat.zero_le _, rfl, rfl⟩
  case round =>
    obtain ⟨n, hn, rfl, rfl⟩ := hrel
    have HN := Lib.hid (rnumber_nat n w (by omega))
    have hdl := dec_len n n (Nat.le_refl _)
    have hds : (ByteArray.mk (Lib.decDigits n).toArray).size = (Lib.decDigits n).length := List.size_toArray
    have ha : (⟨#[61, 95]⟩ ++ ⟨(Lib.decDigits n).toArray⟩ : ByteArray) = ⟨(bnd n).toArray⟩ := Hd.app_mk [61, 95] (Lib.decDigits n)
    have hbl := bnd_len n
    have HNE := Lib.hid (bnd_ne n)
    have HF := Lib.hid (show (n ∈ all l → n < free (all l)) ∧ (n ∉ all l → n = free (all l)) from ⟨fun h => by
      rcases Nat.lt_or_ge n (free (all l)) with q | q
      · exact q
      · have : n = free (all l) := by omega
        rw [this] at h
        exact absurd h (free_not _), fun h => by
      rcases Nat.lt_or_ge n (free (all l)) with q | q
      · exact absurd (free_in _ n q) h
      · omega⟩)
    have HBD := Lib.hid (show n = free (all l) → bdy l = bnd n from fun h => by unfold bdy; rw [← h])
    have HI := Lib.hid (fun b => mem_nums (n := n) b)
    generalize bnd n = x at *
    generalize Lib.decDigits n = dd at *
    generalize hfr : free (all l) = f at *
    have HFR := Lib.hid hfr
    clear hfr
    go_wp2_with fail
    refine HN.out.mono ?_
    rintro e y ⟨rfl, hy⟩
    subst hy
    clear HN
    go_wp2_with fail
    go_loopw [5, 6] (fun vf vi wr => ∃ i : Nat, i ≤ l.length ∧ vi = .int .i64 i ∧ vf = .bool (decide (n ∈ all (l.take i))) ∧ w = wr) (fun _ vi _ => l.length - (intOf vi).toNat)
    case atStart => exact ⟨0, Nat.zero_le _, rfl, by simp [all], rfl⟩
    case round =>
      obtain ⟨i, hi, rfl, rfl, rfl⟩ := hrel
      by_cases hlt : i < l.length
      · have hltI : (i : Int) < l.length := by omega
        obtain ⟨b, hb⟩ : ∃ b, l[i]? = some b := ⟨_, List.getElem?_eq_getElem hlt⟩
        obtain ⟨g, o, c, xv, hv, hc, c0, hx⟩ := HR.out.at hb
        cases hv
        have hcv := hx.conv
        obtain ⟨xa, xc, rfl⟩ := hx.slice
        have HA := Lib.hid (all_snoc hb n)
        have hbl' := HB.out b (List.mem_of_getElem? hb)
        have HAt := Lib.hid (at_any b x 0 w HNE.out (Nat.zero_le _) (by omega) (by omega))
        rw [at_zero] at HAt
        have hge := Lib.index_ge b x
        have HIb := Lib.hid (HI.out b)
        clear hb hx
        cases hd : decide (n ∈ all (l.take i)) with
        | true =>
          have HD := Lib.hid (show decide (n ∈ all (l.take (i + 1))) = true from decide_eq_true ((HA.out).2 (Or.inl (of_decide_eq_true hd))))
          clear hd
          go_wp2
          go_roundw
          case rel => exact ⟨i + 1, hlt, by go_num, by rw [HD.out], by first | rfl | exact trivial⟩
          case measure => simp [intOf]; omega
        | false =>
          have HD := Lib.hid (show decide (n ∈ all (l.take (i + 1))) = decide (0 ≤ Lib.index b x) from decide_eq_decide.2 ((HA.out).trans ⟨fun h => h.elim (fun h => absurd h (of_decide_eq_false hd)) (fun h => by have := (HIb.out).1 h; omega), fun h => Or.inr ((HIb.out).2 (by omega))⟩))
          clear hd HA HIb
          generalize Lib.index b x = ix at *
          go_wp2_with fail
          refine HAt.out.mono ?_
          rintro e z ⟨rfl, hz⟩
          have hz' := hz.symm
          subst hz'
          clear HAt hz
          go_wp2
          go_roundw
          case rel => exact ⟨i + 1, hlt, by go_num, by rw [HD.out], by first | rfl | exact trivial⟩
          case measure => simp [intOf]; omega
      · obtain rfl : i = l.length := by omega
        have hltI : ¬ (l.length : Int) < l.length := by omega
        rw [List.take_length]
        cases hd : decide (n ∈ all l) with
        | true =>
          have hnf := HF.out.1 (of_decide_eq_true hd)
          clear hd
          go_wp2
          go_roundw
          case rel => exact ⟨n + 1, hnf, by go_num, by first | rfl | exact trivial⟩
          case measure => simp [intOf]; omega
        | false =>
          have HZ := Lib.hid (HBD.out (HF.out.2 (of_decide_eq_false hd)))
          clear hd
          go_wp2
          go_ret
          exact ⟨by rw [HZ.out]; rfl, rfl⟩
end Go.Proofs.YtjlpkgipdkjfhaaGreatDoor.Bk.Pt
namespace Go.Proofs.YtjlpkgipdkjfhaaGreatDoor.Bk.Pt
open Go.ChangeShapes Go.WideShapes Go.ChangeAt Go.RowKit Go.Shelf
open Hd (HRd OwnM aE aE_ok all_lnA lnA)
theorem kdR_at {s : B} {i : Nat} {c : UInt8} (h : s[i]? = some c) (a : UInt8) : kdR a (s.drop i) = ((sgn c || (decide (c.toNat = 32) && (decide (i + 1 < s.length) && !decide (a.toNat = 32)))) && kdR c (s.drop (i + 1))) := by
  obtain ⟨hi, rfl⟩ := List.getElem?_eq_some_iff.1 h
  rw [List.drop_eq_getElem_cons hi, kdR]
  have : (!(s.drop (i + 1)).isEmpty) = decide (i + 1 < s.length) := by
    rw [Bool.eq_iff_iff]
    simp [List.isEmpty_eq_false_iff, List.drop_eq_nil_iff]
  rw [this]
theorem kdR_yes {s : B} {i : Nat} {c : UInt8} (h : s[i]? = some c) (a : UInt8) (hs : sgn c = true) : kdR a (s.drop i) = kdR c (s.drop (i + 1)) := by rw [kdR_at h, hs]; rfl
theorem kdR_no {s : B} {i : Nat} {c : UInt8} (h : s[i]? = some c) (a : UInt8) (hs : sgn c = false) (hc : ¬ c.toNat = 32 ∨ ¬ i + 1 < s.length ∨ a.toNat = 32) : kdR a (s.drop i) = false := by
  rw [kdR_at h, hs]
  rcases hc with hc | hc | hc
  · rw [decide_eq_false hc]; rfl
  · rw [decide_eq_false hc]; simp
  · rw [decide_eq_true hc]; simp
theorem kdR_blank {s : B} {i : Nat} {c : UInt8} (h : s[i]? = some c) (a : UInt8) (hc : c.toNat = 32) (hi : i + 1 < s.length) (ha : ¬ a.toNat = 32) : kdR a (s.drop i) = kdR c (s.drop (i + 1)) := by
  rw [kdR_at h, decide_eq_true hc, decide_eq_true hi, decide_eq_false ha]; simp
theorem sgn_yes {c : UInt8} (h : (97 ≤ c.toNat ∧ c.toNat ≤ 122) ∨ (48 ≤ c.toNat ∧ c.toNat ≤ 57) ∨ c.toNat = 47 ∨ c.toNat = 45 ∨ c.toNat = 61 ∨ c.toNat = 59) : sgn c = true := by
  unfold sgn
  simp only [Bool.or_eq_true, Bool.and_eq_true, decide_eq_true_eq]
  omega
def Ah (s : B) (i : Nat) (a : UInt8) : Prop := (i = 0 ∧ a = 32) ∨ (0 < i ∧ s[i - 1]? = some a)
theorem Ah.next {s : B} {i : Nat} {c : UInt8} (h : s[i]? = some c) : Ah s (i + 1) c := Or.inr ⟨by omega, by simpa using h⟩
set_option maxRecDepth 100000 in
set_option maxHeartbeats 8000000 in
theorem rkind_any (s : B) (w : World) (hl : s.length ≤ 1000000000) : Calls Tryz.prog 67 #[sV s] w fun e w' => e = .returned (.bool (kd s)) ∧ w' = w := by
  have hss : (ByteArray.mk s.toArray).size = s.length := List.size_toArray
  have HK := Lib.hid (kd_R s)
  go_enter Tryz.func67, Tryz.ntmps67
  go_wp2_with fail
  go_loopw [3, 4, 5, 6] (fun vi _ _ _ wr => ∃ (i : Nat) (a : UInt8), i ≤ s.length ∧ vi = .int .i64 i ∧ Hid (Ah s i a) ∧ Hid (kdR 32 s = kdR a (s.drop i)) ∧ w = wr) (fun vi _ _ _ _ => s.length - (intOf vi).toNat)
  case atStart => exact ⟨0, 32, Nat.zero_le _, rfl, Lib.hid (Or.inl ⟨rfl, rfl⟩), Lib.hid rfl, rfl⟩
  case round =>
    obtain ⟨i, a, hi, rfl, hA, hR, rfl⟩ := hrel
    by_cases hlt : i < s.length
    · have hltI : (i : Int) < s.length := by omega
      obtain ⟨c, hc⟩ : ∃ c, s[i]? = some c := ⟨_, List.getElem?_eq_getElem hlt⟩
      have hat := byte_at s i c hc
      have HC := Lib.hid hc
      have HY := Lib.hid (fun h => kdR_yes hc a h)
      have HN := Lib.hid (fun h h2 => kdR_no hc a h h2)
      have HB := Lib.hid (fun h h2 h3 => kdR_blank hc a h h2 h3)
      have HA2 := Lib.hid (Ah.next hc)
      have HFalse := Lib.hid (show kdR a (s.drop i) = false → kd s = false from fun h => by rw [HK.out, hR.out, h, Bool.and_false])
      clear hc
      by_cases hsg : sgn c = true
      · have HR2 := Lib.hid (hR.out.trans (HY.out hsg))
        have h32 : ¬ (c.toNat : Int) = 32 := by have := sgn_32 hsg; omega
        have h32b : ((c.toNat : Int) == 32) = false := beq_eq_false_iff_ne.2 h32
        have hcs : (97 ≤ (c.toNat : Int) ∧ (c.toNat : Int) ≤ 122) ∨ ((c.toNat : Int) < 97 ∧ 48 ≤ (c.toNat : Int) ∧ (c.toNat : Int) ≤ 57) ∨ (c.toNat : Int) = 47 ∨ (c.toNat : Int) = 45 ∨ (c.toNat : Int) = 61 ∨ (c.toNat : Int) = 59 := by
          unfold sgn at hsg
          simp only [Bool.or_eq_true, Bool.and_eq_true, decide_eq_true_eq] at hsg
          omega
        clear hsg HY HN HB HFalse hR
        rcases hcs with ⟨h1, h2⟩ | ⟨h1, h2, h3⟩ | h1 | h1 | h1 | h1
        · go_wp2
          go_roundw
          case rel => exact ⟨i + 1, c, hlt, by go_num, HA2, HR2, by first | rfl | exact trivial⟩
          case measure => simp [intOf]; omega
        · have h4 : ¬ (97 : Int) ≤ c.toNat := by omega
          go_wp2
          go_roundw
          case rel => exact ⟨i + 1, c, hlt, by go_num, HA2, HR2, by first | rfl | exact trivial⟩
          case measure => simp [intOf]; omega
        · obtain rfl : c = 47 := UInt8.toNat_inj.1 (by rw [show (47 : UInt8).toNat = 47 from rfl]; omega)
          clear h1 h32 h32b
          go_wp2
          go_roundw
          case rel => exact ⟨i + 1, _, hlt, by go_num, HA2, HR2, by first | rfl | exact trivial⟩
          case measure => simp [intOf]; omega
        · obtain rfl : c = 45 := UInt8.toNat_inj.1 (by rw [show (45 : UInt8).toNat = 45 from rfl]; omega)
          clear h1 h32 h32b
          go_wp2
          go_roundw
          case rel => exact ⟨i + 1, _, hlt, by go_num, HA2, HR2, by first | rfl | exact trivial⟩
          case measure => simp [intOf]; omega
        · obtain rfl : c = 61 := UInt8.toNat_inj.1 (by rw [show (61 : UInt8).toNat = 61 from rfl]; omega)
          clear h1 h32 h32b
          go_wp2
          go_roundw
          case rel => exact ⟨i + 1, _, hlt, by go_num, HA2, HR2, by first | rfl | exact trivial⟩
          case measure => simp [intOf]; omega
        · obtain rfl : c = 59 := UInt8.toNat_inj.1 (by rw [show (59 : UInt8).toNat = 59 from rfl]; omega)
          clear h1 h32 h32b
          go_wp2
          go_roundw
          case rel => exact ⟨i + 1, _, hlt, by go_num, HA2, HR2, by first | rfl | exact trivial⟩
          case measure => simp [intOf]; omega
      · have hsf : sgn c = false := by simpa using hsg
        have hcs : ((c.toNat : Int) < 48 ∨ (57 < (c.toNat : Int) ∧ (c.toNat : Int) < 97) ∨ 122 < (c.toNat : Int)) ∧ ¬ (c.toNat : Int) = 47 ∧ ¬ (c.toNat : Int) = 45 ∧ ¬ (c.toNat : Int) = 61 ∧ ¬ (c.toNat : Int) = 59 := by
          have := mt (sgn_yes (c := c)) hsg
          omega
        obtain ⟨hcs, n1, n2, n3, n4⟩ := hcs
        by_cases h32 : (c.toNat : Int) = 32
        · have HS := Lib.hid hsf
          clear hsg hsf hcs
          obtain rfl : c = 32 := UInt8.toNat_inj.1 (by rw [show (32 : UInt8).toNat = 32 from rfl]; omega)
          clear h32 n1 n2 n3 n4
          by_cases hi0 : i = 0
          · subst hi0
            have HZ := Lib.hid (HFalse.out (HN.out HS.out (Or.inr (Or.inr (by rcases hA.out with ⟨_, h⟩ | ⟨h, _⟩; rw [h]; rfl; omega)))))
            clear hA HN HB HY HFalse hR HA2
            go_wp2
            go_ret
            exact ⟨by rw [HZ.out]; rfl, by first | rfl | trivial⟩
          · have hi0I : (0 : Int) < i := by omega
            by_cases hil : (i : Int) < (s.length : Int) - 1
            · obtain ⟨j, hj⟩ : ∃ j, i = j + 1 := ⟨i - 1, by omega⟩
              have hpa : s[j]? = some a := by
                rcases hA.out with ⟨h, _⟩ | ⟨_, h⟩
                · exact absurd h hi0
                · rw [hj] at h; simpa using h
              have hap := byte_at s j a hpa
              have hjI : (i : Int) - 1 = (j : Int) := by omega
              have hjl : (j : Int) < s.length := by omega
              have HJ := Lib.hid hj
              clear hpa hj hA
              by_cases ha : (a.toNat : Int) = 32
              · have HZ := Lib.hid (HFalse.out (HN.out HS.out (Or.inr (Or.inr (by omega)))))
                obtain rfl : a = 32 := UInt8.toNat_inj.1 (by rw [show (32 : UInt8).toNat = 32 from rfl]; omega)
                clear HN HB HY HFalse hR HA2 ha
                go_wp2
                go_ret
                exact ⟨by rw [HZ.out]; rfl, by first | rfl | trivial⟩
              · have HR2 := Lib.hid (hR.out.trans (HB.out rfl (by omega) (by omega)))
                have hab : ((a.toNat : Int) != 32) = true := bne_iff_ne.2 ha
                clear HN HB HY HFalse hR
                go_wp2
                go_roundw
                case rel => exact ⟨i + 1, 32, hlt, by go_num, HA2, HR2, by first | rfl | exact trivial⟩
                case measure => simp [intOf]; omega
            · have HZ := Lib.hid (HFalse.out (HN.out HS.out (Or.inr (Or.inl (by omega)))))
              clear hA HN HB HY HFalse hR HA2
              go_wp2
              go_ret
              exact ⟨by rw [HZ.out]; rfl, by first | rfl | trivial⟩
        · have HZ := Lib.hid (HFalse.out (HN.out hsf (Or.inl (by omega))))
          clear hsg hsf hA HN HB HY HFalse hR HA2
          have h32b : ((c.toNat : Int) == 32) = false := beq_eq_false_iff_ne.2 h32
          have n1b : ((c.toNat : Int) == 47) = false := beq_eq_false_iff_ne.2 n1
          have n2b : ((c.toNat : Int) == 45) = false := beq_eq_false_iff_ne.2 n2
          have n3b : ((c.toNat : Int) == 61) = false := beq_eq_false_iff_ne.2 n3
          have n4b : ((c.toNat : Int) == 59) = false := beq_eq_false_iff_ne.2 n4
          rcases hcs with h1 | ⟨h1, h2⟩ | h1
          · have h3 : ¬ (48 : Int) ≤ c.toNat := by omega
            have h4 : ¬ (97 : Int) ≤ c.toNat := by omega
            go_wp2
            go_ret
            exact ⟨by rw [HZ.out]; rfl, by first | rfl | trivial⟩
          · have h3 : (48 : Int) ≤ c.toNat := by omega
            have h4 : ¬ (97 : Int) ≤ c.toNat := by omega
            have h5 : ¬ (c.toNat : Int) ≤ 57 := by omega
            go_wp2
            go_ret
            exact ⟨by rw [HZ.out]; rfl, by first | rfl | trivial⟩
          · have h3 : (48 : Int) ≤ c.toNat := by omega
            have h4 : (97 : Int) ≤ c.toNat := by omega
            have h5 : ¬ (c.toNat : Int) ≤ 57 := by omega
            have h6 : ¬ (c.toNat : Int) ≤ 122 := by omega
            go_wp2
            go_ret
            exact ⟨by rw [HZ.out]; rfl, by first | rfl | trivial⟩
    · have hltI : ¬ (i : Int) < s.length := by omega
      have HZ := Lib.hid (show kd s = (decide (1 ≤ s.length) && decide (s.length ≤ 60)) by
        rw [HK.out, hR.out, List.drop_eq_nil_of_le (by omega), kdR, Bool.and_true])
      clear hR hA
      by_cases h1 : (1 : Int) ≤ s.length
      · go_wp2
        go_ret
        refine ⟨eb_ret ?_, by first | rfl | trivial⟩
        rw [HZ.out, decide_eq_true (show 1 ≤ s.length by omega), Bool.true_and]
        exact decide_eq_decide.2 (by omega)
      · go_wp2
        go_ret
        refine ⟨eb_ret ?_, by first | rfl | trivial⟩
        rw [HZ.out, decide_eq_false (show ¬ 1 ≤ s.length by omega), Bool.false_and]
set_option maxRecDepth 100000 in
set_option maxHeartbeats 1000000 in
theorem rheaders_any (k : B) (w : World) (hk : k.length ≤ 4000) : Calls Tryz.prog 70 #[sV k] w fun e w' => ∃ xv, e = .returned xv ∧ OwnM w.heap.size xv (lnA (hds k)) w' ∧ Kept w w' := by
  have HB := Lib.hid (show HRd (.slice (some ⟨w.heap.size, 0, none⟩) 2 2) (hds k) (w.alloc (.cells #[sV nmT, sV k, sV nmE, sV qpT] 41)) by
    refine ⟨_, _, rfl, fun _ => ⟨_, _, rfl, Nat.le_refl _, fun i h hi => ?_⟩⟩
    have hn : ∀ j v, (#[sV nmT, sV k, sV nmE, sV qpT] : Array Value)[j]? = some v → (w.alloc (.cells #[sV nmT, sV k, sV nmE, sV qpT] 41)).cell? ⟨w.heap.size, j, none⟩ = some v := fun j v hj => by
      simp [World.cell?, World.alloc, -World.alloc_eq, hj]
    match i, hi with
    | 0, hi => simp [hds] at hi; subst hi; exact ⟨hn 0 _ rfl, hn 1 _ rfl⟩
    | 1, hi => simp [hds] at hi; subst hi; exact ⟨hn 2 _ rfl, hn 3 _ rfl⟩)
  have HK := Lib.hid ((Kept.refl w).alloc (.cells #[sV nmT, sV k, sV nmE, sV qpT] 41))
  have HOK := Lib.hid (And.intro (aE_ok (hds_ok hk)) (all_lnA (hds_ok hk)))
  have HL := Lib.hid (show ∀ h ∈ hds k, h.1.length ≤ 100000000 ∧ h.2.length ≤ 100000000 from fun h hh => by
    simp only [hds, List.mem_cons, List.not_mem_nil, or_false] at hh
    rcases hh with rfl | rfl
    · exact ⟨by show nmT.length ≤ _; decide, by show k.length ≤ _; omega⟩
    · exact ⟨by show nmE.length ≤ _; decide, by show qpT.length ≤ _; decide⟩)
  go_enter Tryz.func70, Tryz.ntmps70
  go_wp2_with fail
  refine (Hd.rall_any _ (hds k) _ HB.out HL.out).mono ?_
  rintro e y ⟨xv, rfl, hx, ky⟩
  rw [HOK.out.2, Option.getD_some] at hx
  rw [HOK.out.1]
  have HX := Lib.hid (hx.mono HK.out.size)
  have KY := Lib.hid (HK.out.trans ky)
  obtain ⟨xa, xc, rfl⟩ := hx.slice
  clear hx ky HB HOK
  obtain ⟨L, hL⟩ : ∃ L, lnA (hds k) = L := ⟨_, rfl⟩
  have HL2 := Lib.hid hL
  rw [hL] at HX ⊢
  clear hL
  go_wp2
  go_ret
  exact ⟨.slice xa L.length xc, rfl, by rw [HL2.out]; exact HX.out, KY.out⟩
end Go.Proofs.YtjlpkgipdkjfhaaGreatDoor.Bk.Pt
