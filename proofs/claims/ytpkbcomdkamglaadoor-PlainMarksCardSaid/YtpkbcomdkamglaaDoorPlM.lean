/- Package plain: letters, digits; what opens a mark; what hides. -/
import Derived.Test.YtpkbcomdkamglaaDoorPlLow
import Derived.Test.YtpkbcomdkamglaaDoorPlB
import Derived.Test.YtpkbcomdkamglaaDoorEnEnv
import Derived.Test.YtpkbcomdkamglaaDoorCut
set_option linter.unusedSimpArgs false
set_option linter.unusedVariables false
namespace Go.Proofs.YtpkbcomdkamglaaDoor.Pl
open Go.ChangeShapes Go.WideShapes Go.ChangeAt Go.RowKit
open En
theorem isLetter_any (c : UInt8) (w : World) : Calls Tryd.prog 44 #[.int .u8 c.toNat] w fun e w' => e = .returned (.bool (ltB c)) ∧ w = w' := by
  rcases (show c.toNat < 65 ∨ (65 ≤ c.toNat ∧ c.toNat ≤ 90) ∨ (91 ≤ c.toNat ∧ c.toNat ≤ 96) ∨ (97 ≤ c.toNat ∧ c.toNat ≤ 122) ∨ 123 ≤ c.toNat by omega) with h | h | h | h | h
  · have HK := Lib.hid (show ltB c = false by unfold ltB; simp; omega)
    have b0 : decide ((65 : Int) ≤ c.toNat) = false := by simp; omega
    have b1 : decide ((97 : Int) ≤ c.toNat) = false := by simp; omega
    have b2 : decide ((c.toNat : Int) ≤ 90) = true := by simp; omega
    have b3 : decide ((c.toNat : Int) ≤ 122) = true := by simp; omega
    clear h
    go_enter Tryd.func44, Tryd.ntmps44
    go_wp2
    go_ret
    exact ⟨by rw [HK.out]; rfl, rfl⟩
  · have HK := Lib.hid (show ltB c = true by unfold ltB; simp; omega)
    have b0 : decide ((65 : Int) ≤ c.toNat) = true := by simp; omega
    have b1 : decide ((97 : Int) ≤ c.toNat) = false := by simp; omega
    have b2 : decide ((c.toNat : Int) ≤ 90) = true := by simp; omega
    have b3 : decide ((c.toNat : Int) ≤ 122) = true := by simp; omega
    clear h
    go_enter Tryd.func44, Tryd.ntmps44
    go_wp2
    go_ret
    exact ⟨by rw [HK.out]; rfl, rfl⟩
  · have HK := Lib.hid (show ltB c = false by unfold ltB; simp; omega)
    have b0 : decide ((65 : Int) ≤ c.toNat) = true := by simp; omega
    have b1 : decide ((97 : Int) ≤ c.toNat) = false := by simp; omega
    have b2 : decide ((c.toNat : Int) ≤ 90) = false := by simp; omega
    have b3 : decide ((c.toNat : Int) ≤ 122) = true := by simp; omega
    clear h
    go_enter Tryd.func44, Tryd.ntmps44
    go_wp2
    go_ret
    exact ⟨by rw [HK.out]; rfl, rfl⟩
  · have HK := Lib.hid (show ltB c = true by unfold ltB; simp; omega)
    have b0 : decide ((65 : Int) ≤ c.toNat) = true := by simp; omega
    have b1 : decide ((97 : Int) ≤ c.toNat) = true := by simp; omega
    have b2 : decide ((c.toNat : Int) ≤ 90) = false := by simp; omega
    have b3 : decide ((c.toNat : Int) ≤ 122) = true := by simp; omega
    clear h
    go_enter Tryd.func44, Tryd.ntmps44
    go_wp2
    go_ret
    exact ⟨by rw [HK.out]; rfl, rfl⟩
  · have HK := Lib.hid (show ltB c = false by unfold ltB; simp; omega)
    have b0 : decide ((65 : Int) ≤ c.toNat) = true := by simp; omega
    have b1 : decide ((97 : Int) ≤ c.toNat) = true := by simp; omega
    have b2 : decide ((c.toNat : Int) ≤ 90) = false := by simp; omega
    have b3 : decide ((c.toNat : Int) ≤ 122) = false := by simp; omega
    clear h
    go_enter Tryd.func44, Tryd.ntmps44
    go_wp2
    go_ret
    exact ⟨by rw [HK.out]; rfl, rfl⟩
theorem isDigit_any (c : UInt8) (w : World) : Calls Tryd.prog 46 #[.int .u8 c.toNat] w fun e w' => e = .returned (.bool (dgB c)) ∧ w = w' := by
  rcases (show c.toNat < 48 ∨ (48 ≤ c.toNat ∧ c.toNat ≤ 57) ∨ 58 ≤ c.toNat by omega) with h | h | h
  · have HK := Lib.hid (show dgB c = false by unfold dgB; simp; omega)
    have b0 : decide ((48 : Int) ≤ c.toNat) = false := by simp; omega
    have b1 : decide ((c.toNat : Int) ≤ 57) = true := by simp; omega
    clear h
    go_enter Tryd.func46, Tryd.ntmps46
    go_wp2
    go_ret
    exact ⟨by rw [HK.out]; rfl, rfl⟩
  · have HK := Lib.hid (show dgB c = true by unfold dgB; simp; omega)
    have b0 : decide ((48 : Int) ≤ c.toNat) = true := by simp; omega
    have b1 : decide ((c.toNat : Int) ≤ 57) = true := by simp; omega
    clear h
    go_enter Tryd.func46, Tryd.ntmps46
    go_wp2
    go_ret
    exact ⟨by rw [HK.out]; rfl, rfl⟩
  · have HK := Lib.hid (show dgB c = false by unfold dgB; simp; omega)
    have b0 : decide ((48 : Int) ≤ c.toNat) = true := by simp; omega
    have b1 : decide ((c.toNat : Int) ≤ 57) = false := by simp; omega
    clear h
    go_enter Tryd.func46, Tryd.ntmps46
    go_wp2
    go_ret
    exact ⟨by rw [HK.out]; rfl, rfl⟩
theorem opensMark_any (l : B) (w : World) : Calls Tryd.prog 30 #[.string ⟨l.toArray⟩] w fun e w' => e = .returned (.bool (opn l)) ∧ w = w' := by
  cases l with
  | nil =>
    go_enter Tryd.func30, Tryd.ntmps30
    go_wp2
    go_ret
    exact ⟨rfl, rfl⟩
  | cons c r =>
    have hat := byte_at (c :: r) 0 c rfl
    have HL := Lib.hid (fun w => isLetter_any c w)
    have HO := Lib.hid (show opn (c :: r) = (ltB c || c == 47 || c == 33) from rfl)
    have h47 : ((c.toNat : Int) == 47) = (c == 47) := by rw [Bool.eq_iff_iff, beq_iff_eq, beq_iff_eq, ← UInt8.toNat_inj]; show _ ↔ c.toNat = 47; omega
    have h33 : ((c.toNat : Int) == 33) = (c == 33) := by rw [Bool.eq_iff_iff, beq_iff_eq, beq_iff_eq, ← UInt8.toNat_inj]; show _ ↔ c.toNat = 33; omega
    rw [← h47, ← h33] at HO
    clear h47 h33
    generalize opn (c :: r) = z at *
    generalize ltB c = lt at *
    cases h1 : lt with
    | true =>
      subst h1
      go_enter Tryd.func30, Tryd.ntmps30
      go_wp2_with (go_at_call 44; refine (HL.out _).mono ?_; rintro e w' ⟨rfl, rfl⟩)
      go_ret
      exact ⟨by rw [HO.out]; rfl, rfl⟩
    | false =>
      subst h1
      cases h2 : ((c.toNat : Int) == 47) with
      | true =>
        rw [h2] at HO
        go_enter Tryd.func30, Tryd.ntmps30
        go_wp2_with (go_at_call 44; refine (HL.out _).mono ?_; rintro e w' ⟨rfl, rfl⟩)
        go_ret
        exact ⟨by rw [HO.out]; rfl, rfl⟩
      | false =>
        rw [h2] at HO
        cases h3 : ((c.toNat : Int) == 33) with
        | true =>
          rw [h3] at HO
          go_enter Tryd.func30, Tryd.ntmps30
          go_wp2_with (go_at_call 44; refine (HL.out _).mono ?_; rintro e w' ⟨rfl, rfl⟩)
          go_ret
          exact ⟨by rw [HO.out]; rfl, rfl⟩
        | false =>
          rw [h3] at HO
          go_enter Tryd.func30, Tryd.ntmps30
          go_wp2_with (go_at_call 44; refine (HL.out _).mono ?_; rintro e w' ⟨rfl, rfl⟩)
          go_ret
          exact ⟨by rw [HO.out]; rfl, rfl⟩
abbrev mkV (n : B) (c : Bool) : Value := .agg #[.string ⟨n.toArray⟩, .bool c]
/-- a mark in a block -/
def Mb (b : Nat) (n : B) (c : Bool) (W : World) : Prop := W.heap[b]? = some (.cells #[.string ⟨n.toArray⟩, .bool c] 41)
theorem Mb.lt {b : Nat} {n : B} {c : Bool} {W : World} (h : Mb b n c W) : b < W.heap.size := (Array.getElem?_eq_some_iff.1 h).1
theorem Mb.kept {b : Nat} {n : B} {c : Bool} {W W' : World} (h : Mb b n c W) (k : Kept W W') : Mb b n c W' := (k.block _ h.lt).trans h
theorem Mb.cells {b : Nat} {n : B} {c : Bool} {W : World} (h : Mb b n c W) : W.cell? ⟨b, 0, none⟩ = some (.string ⟨n.toArray⟩) ∧ W.cell? ⟨b, 1, none⟩ = some (.bool c) := ⟨cell_at h rfl, cell_at h rfl⟩
theorem Mb.new (W : World) (n : B) (c : Bool) : Mb W.heap.size n c (W.alloc (.cells #[.string ⟨n.toArray⟩, .bool c] 41)) := World.alloc_heap_new W _
set_option maxRecDepth 100000 in
theorem hides_any (n : B) (c : Bool) (w : World) : Calls Tryd.prog 34 #[mkV n c] w fun e w' => e = .returned (.bool (!c && hidN n)) ∧ Kept w w' := by
  have B0 := Lib.hid (Mb.new w n c)
  have K0 := Lib.hid ((Kept.refl w).alloc (.cells #[.string ⟨n.toArray⟩, .bool c] 41))
  cases c with
  | true =>
    go_enter Tryd.func34, Tryd.ntmps34
    go_upto_region 1 with (fail)
    generalize w.alloc (.cells #[.string ⟨n.toArray⟩, .bool true] 41) = x0 at *
    obtain ⟨c0, c1⟩ := B0.out.cells
    go_wp2
    go_ret
    exact ⟨rfl, K0.out⟩
  | false =>
    have HN := Lib.hid (show hidN n = ((n == [115, 99, 114, 105, 112, 116]) || (n == [115, 116, 121, 108, 101])) from rfl)
    generalize hidN n = z at *
    cases h1 : (n == [115, 99, 114, 105, 112, 116]) with
    | true =>
      rw [h1] at HN
      go_enter Tryd.func34, Tryd.ntmps34
      go_upto_region 1 with (fail)
      generalize w.alloc (.cells #[.string ⟨n.toArray⟩, .bool false] 41) = x0 at *
      obtain ⟨c0, c1⟩ := B0.out.cells
      go_wp2
      go_ret
      exact ⟨by rw [HN.out]; rfl, K0.out⟩
    | false =>
      rw [h1] at HN
      cases h2 : (n == [115, 116, 121, 108, 101]) with
      | true =>
        rw [h2] at HN
        go_enter Tryd.func34, Tryd.ntmps34
        go_upto_region 1 with (fail)
        generalize w.alloc (.cells #[.string ⟨n.toArray⟩, .bool false] 41) = x0 at *
        obtain ⟨c0, c1⟩ := B0.out.cells
        go_wp2
        go_ret
        exact ⟨by rw [HN.out]; rfl, K0.out⟩
      | false =>
        rw [h2] at HN
        go_enter Tryd.func34, Tryd.ntmps34
        go_upto_region 1 with (fail)
        generalize w.alloc (.cells #[.string ⟨n.toArray⟩, .bool false] 41) = x0 at *
        obtain ⟨c0, c1⟩ := B0.out.cells
        go_wp2
        go_ret
        exact ⟨by rw [HN.out]; rfl, K0.out⟩
theorem lower_any (t : B) (w : World) (hE : EnvP w) (hl : t.length ≤ 1000000) : Calls Tryd.prog 47 #[.string ⟨t.toArray⟩] w fun e w' => e = .returned (.string ⟨(Lib.toLowerD t).toArray⟩) ∧ Kept w w' := by
  refine (Tryd.strings_ToLower_any ⟨t.toArray⟩ w (by rw [show (ByteArray.mk t.toArray).size = t.length from List.size_toArray]; omega) hE.cv hE.env.1).mono ?_
  rintro e w1 ⟨rfl, hb⟩
  exact ⟨by simp, Kept.of_below hb⟩
/-- does a text begin with a name, in letters small or great -/
def bgn (s n : B) : Bool := lo (s.take n.length) == n
set_option maxRecDepth 100000 in
theorem beginsWith_any (s n : B) (w : World) (hE : EnvP w) (hs : s.length ≤ 1000000) (hn : ∀ x ∈ n, x.toNat < 128) : Calls Tryd.prog 36 #[.string ⟨s.toArray⟩, .string ⟨n.toArray⟩] w fun e w' => e = .returned (.bool (bgn s n)) ∧ Kept w w' := by
  by_cases h : n.length ≤ s.length
  · have hI : (n.length : Int) ≤ s.length := by omega
    have hct := cut_to s n.length h
    have htl : (s.take n.length).length = n.length := by rw [List.length_take]; omega
    have HT := Lib.hid (fun w (hE : EnvP w) => lower_any (s.take n.length) w hE (by omega))
    have HB := Lib.hid (show bgn s n = (Lib.toLowerD (s.take n.length) == n) by
      unfold bgn; rw [Bool.eq_iff_iff, beq_iff_eq, beq_iff_eq]; exact (low_name hn htl).symm)
    have HE := Lib.hid hE
    clear hE hn h htl
    generalize s.take n.length = t at *
    generalize Lib.toLowerD t = t1 at *
    generalize bgn s n = z at *
    cases hz : (t1 == n) with
    | true =>
      rw [hz] at HB
      go_enter Tryd.func36, Tryd.ntmps36
      go_wp2_with (go_at_call 47; refine (HT.out _ HE.out).mono ?_; rintro e w1 ⟨rfl, k1⟩)
      go_ret
      exact ⟨by rw [HB.out]; rfl, k1⟩
    | false =>
      rw [hz] at HB
      go_enter Tryd.func36, Tryd.ntmps36
      go_wp2_with (go_at_call 47; refine (HT.out _ HE.out).mono ?_; rintro e w1 ⟨rfl, k1⟩)
      go_ret
      exact ⟨by rw [HB.out]; rfl, k1⟩
  · have hI : ¬ (n.length : Int) ≤ s.length := by omega
    have HB := Lib.hid (show bgn s n = false by
      unfold bgn; rw [beq_eq_false_iff_ne]; intro e
      have := congrArg List.length e
      unfold lo at this
      rw [List.length_map, List.length_take] at this; omega)
    clear h hE hn
    go_enter Tryd.func36, Tryd.ntmps36
    go_wp2
    go_ret
    exact ⟨by rw [HB.out]; rfl, Kept.refl _⟩
end Go.Proofs.YtpkbcomdkamglaaDoor.Pl
