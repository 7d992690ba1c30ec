import Derived.Test.YtjlpkgipdkjfhaaGreatDoorPa
import Derived.Shelf.Strings.CaseAny
import Derived.Lib.MapLaws
import Derived.Lib.TrimU
import Derived.Lib.TrimAscii
import Derived.Test.YtjlpkgipdkjfhaaGreatDoorEc
import Derived.Test.YtjlpkgipdkjfhaaGreatDoorEa
import Derived.Deep.RegionHeld3
set_option linter.unusedVariables false
set_option linter.unusedSimpArgs false
namespace Go.Proofs.YtjlpkgipdkjfhaaGreatDoor.Pl
open Go.Lib En
theorem enc_head (x : Int) (h0 : 0 ≤ x) (h1 : x < 256) : (x.toNat.toUInt8).toNat = x.toNat := by
  simp only [Nat.toUInt8, UInt8.toNat_ofNat']; omega
theorem enc_ascii (r : Int) (h : ∀ x ∈ encodeRune r, x.toNat < 128) : (encodeRune r).length ≤ 1 := by
  unfold encodeRune at *
  have hb := encodeRuneZ_byte r
  unfold encodeRuneZ at *
  split
  · simp
  · rename_i n0
    rw [if_neg n0] at h hb
    exfalso
    split at h
    · rename_i n1
      rw [if_pos n1] at hb
      have := hb (192 + r / 64) (by simp)
      have h2 := h ((192 + r / 64).toNat.toUInt8) (by simp)
      rw [enc_head _ this.1 this.2] at h2; omega
    · rename_i n1
      rw [if_neg n1] at hb
      split at h
      · rename_i n2
        rw [if_pos n2] at hb
        have := hb (224 + r / 4096) (by simp)
        have h2 := h ((224 + r / 4096).toNat.toUInt8) (by simp)
        rw [enc_head _ this.1 this.2] at h2; omega
      · rename_i n2
        rw [if_neg n2] at hb
        split at h
        · rename_i n3
          rw [if_pos n3] at hb
          have := hb (240 + r / 262144) (by simp)
          have h2 := h ((240 + r / 262144).toNat.toUInt8) (by simp)
          rw [enc_head _ this.1 this.2] at h2; omega
        · have h2 := h ((239 : Int).toNat.toUInt8) (by simp)
          revert h2; decide
theorem low_bad : toLowerU 65533 = 65533 := by decide +kernel
theorem enc_bad : encodeRune 65533 = [239, 191, 189] := by decide
theorem lowD_len : ∀ (n : Nat) (l : List UInt8), l.length ≤ n → (∀ x ∈ toLowerD l, x.toNat < 128) →
    (toLowerD l).length ≤ l.length ∧ ((∃ x ∈ l, 128 ≤ x.toNat) → (toLowerD l).length < l.length) := by
  intro n
  induction n with
  | zero =>
    intro l h _
    obtain rfl : l = [] := by simpa using h
    refine ⟨by simp [toLowerD, mapD, mapGoD], fun ⟨x, hx, _⟩ => by simp at hx⟩
  | succ n ih =>
    intro l h ha
    cases l with
    | nil => exact ⟨by simp [toLowerD, mapD, mapGoD], fun ⟨x, hx, _⟩ => by simp at hx⟩
    | cons b r =>
      have hne : b :: r ≠ [] := by simp
      have hst := mapD_step toLowerU (b :: r) hne
      have hw := decodeL_width (b :: r)
      have hle := decodeL_le (b :: r) hne
      change mapD toLowerU (b :: r) = _ at hst
      unfold toLowerD at ha ⊢
      rw [hst] at ha ⊢
      have hh : ∀ x ∈ (if 0 ≤ toLowerU ((decodeL (b :: r)).1 : Int) then encodeRune (toLowerU ((decodeL (b :: r)).1 : Int)) else []), x.toNat < 128 := fun x hx => ha x (List.mem_append_left _ hx)
      have h1 : (if 0 ≤ toLowerU ((decodeL (b :: r)).1 : Int) then encodeRune (toLowerU ((decodeL (b :: r)).1 : Int)) else []).length ≤ 1 := by
        split at hh
        · rw [if_pos (by assumption)]; exact enc_ascii _ hh
        · rw [if_neg (by assumption)]; simp
      have hd : ((b :: r).drop (decodeL (b :: r)).2).length = (b :: r).length - (decodeL (b :: r)).2 := by rw [List.length_drop]
      obtain ⟨i1, i2⟩ := ih ((b :: r).drop (decodeL (b :: r)).2) (by rw [hd]; simp at h ⊢; omega) (fun x hx => ha x (List.mem_append_right _ hx))
      unfold toLowerD at i1 i2
      rw [hd] at i1
      by_cases hb : b.toNat < 128
      · have he := decodeL_ascii b r hb
        rw [he] at i1 i2 h1 ⊢
        rw [List.length_append]
        generalize (if 0 ≤ toLowerU ((b.toNat, 1).1 : Int) then encodeRune (toLowerU ((b.toNat, 1).1 : Int)) else []) = hd1 at h1 ⊢
        refine ⟨by simp at i1 ⊢; omega, fun ⟨x, hx, h8⟩ => ?_⟩
        have := i2 ⟨x, by
          rcases List.mem_cons.1 hx with rfl | hx
          · omega
          · simpa using hx, h8⟩
        simp at this h1 ⊢; omega
      · have h2 : 2 ≤ (decodeL (b :: r)).2 := by
          apply Classical.byContradiction
          intro hn
          have hk : (decodeL (b :: r)).2 = 1 := by omega
          by_cases hv : (decodeL (b :: r)).1 = 65533
          · rw [hv, show ((65533 : Nat) : Int) = 65533 from rfl, low_bad, if_pos (by decide), enc_bad] at hh
            have := hh 239 (by simp); revert this; decide
          · have he := encode_decode (b :: r) hne (fun k => hv k.1)
            rw [hk] at he
            simp at he
            have hl : (encodeRune ((decodeL (b :: r)).1 : Int)).length = 1 := by rw [he]; rfl
            have hz : ∀ z : Int, (encodeRune z).length = 1 → 0 ≤ z ∧ z ≤ 127 := by
              intro z hz
              unfold encodeRune encodeRuneZ at hz
              split at hz
              · assumption
              · split at hz
                · simp at hz
                · split at hz
                  · simp at hz
                  · split at hz <;> simp at hz
            have hz2 := hz _ hl
            unfold encodeRune at he
            rw [encodeRuneZ_one hz2.1 hz2.2] at he
            simp at he
            have : b.toNat = (decodeL (b :: r)).1 := by
              have := congrArg UInt8.toNat he
              simp at this; omega
            omega
        rw [List.length_append]
        refine ⟨by omega, fun _ => by omega⟩
theorem lowerB_high {b : UInt8} (h : 128 ≤ b.toNat) : lowerB b = b := by
  unfold lowerB isUpperB
  have : ¬ b ≤ 90 := by rw [UInt8.le_iff_toNat_le]; show ¬ b.toNat ≤ 90; omega
  simp [this]
theorem low_name {n t : B} (hn : ∀ x ∈ n, x.toNat < 128) (hl : t.length = n.length) : toLowerD t = n ↔ lo t = n := by
  by_cases ha : ∀ b ∈ t, b.toNat < 128
  · rw [toLowerD_ascii t ha]; rfl
  · have hh : ∃ x ∈ t, 128 ≤ x.toNat := by
      apply Classical.byContradiction
      intro hq
      exact ha fun b hb => Classical.byContradiction fun h => hq ⟨b, hb, by omega⟩
    constructor
    · intro e
      have h1 := (lowD_len _ t (Nat.le_refl _) (fun x hx => by rw [e] at hx; exact hn x hx)).2 hh
      rw [e] at h1; omega
    · intro e
      obtain ⟨x, hx, h8⟩ := hh
      have := hn (lowerB x) (by rw [← e]; exact List.mem_map_of_mem hx)
      rw [lowerB_high h8] at this; omega
theorem low_word {t : B} (h : ∀ c ∈ t, wdB c = true) : toLowerD t = lo t := by
  refine toLowerD_ascii t (fun c hc => ?_)
  have := h c hc
  unfold wdB ltB dgB at this
  simp only [Bool.or_eq_true, decide_eq_true_eq] at this
  omega
end Go.Proofs.YtjlpkgipdkjfhaaGreatDoor.Pl
namespace Go.Proofs.YtjlpkgipdkjfhaaGreatDoor.Pl
open Go.ChangeShapes Go.WideShapes Go.ChangeAt Go.RowKit
open En
theorem isLetter_any (c : UInt8) (w : World) : Calls Tryz.prog 269 #[.int .u8 c.toNat] w fun e w' => e = .returned (.bool (ltB c)) ∧ w = w' := by
  rcases (show c.toNat < 65 ∨ (65 ≤ c.toNat ∧ c.toNat ≤ 90) ∨ (91 ≤ c.toNat ∧ c.toNat ≤ 96) ∨ (97 ≤ c.toNat ∧ c.toNat ≤ 122) ∨ 123 ≤ c.toNat by omega) with h | h | h | h | h
  · have HK := Lib.hid (show ltB c = false by unfold ltB; simp; omega)
    have b0 : decide ((65 : Int) ≤ c.toNat) = false := by simp; omega
    have b1 : decide ((97 : Int) ≤ c.toNat) = false := by simp; omega
    have b2 : decide ((c.toNat : Int) ≤ 90) = true := by simp; omega
    have b3 : decide ((c.toNat : Int) ≤ 122) = true := by simp; omega
    clear h
    go_enter Tryz.func269, Tryz.ntmps269
    go_wp2
    go_ret
    exact ⟨by rw [HK.out]; rfl, rfl⟩
  · have HK := Lib.hid (show ltB c = true by unfold ltB; simp; omega)
    have b0 : decide ((65 : Int) ≤ c.toNat) = true := by simp; omega
    have b1 : decide ((97 : Int) ≤ c.toNat) = false := by simp; omega
    have b2 : decide ((c.toNat : Int) ≤ 90) = true := by simp; omega
    have b3 : decide ((c.toNat : Int) ≤ 122) = true := by simp; omega
    clear h
    go_enter Tryz.func269, Tryz.ntmps269
    go_wp2
    go_ret
    exact ⟨by rw [HK.out]; rfl, rfl⟩
  · have HK := Lib.hid (show ltB c = false by unfold ltB; simp; omega)
    have b0 : decide ((65 : Int) ≤ c.toNat) = true := by simp; omega
    have b1 : decide ((97 : Int) ≤ c.toNat) = false := by simp; omega
    have b2 : decide ((c.toNat : Int) ≤ 90) = false := by simp; omega
    have b3 : decide ((c.toNat : Int) ≤ 122) = true := by simp; omega
    clear h
    go_enter Tryz.func269, Tryz.ntmps269
    go_wp2
    go_ret
    exact ⟨by rw [HK.out]; rfl, rfl⟩
  · have HK := Lib.hid (show ltB c = true by unfold ltB; simp; omega)
    have b0 : decide ((65 : Int) ≤ c.toNat) = true := by simp; omega
    have b1 : decide ((97 : Int) ≤ c.toNat) = true := by simp; omega
    have b2 : decide ((c.toNat : Int) ≤ 90) = false := by simp; omega
    have b3 : decide ((c.toNat : Int) ≤ 122) = true := by simp; omega
    clear h
    go_enter Tryz.func269, Tryz.ntmps269
    go_wp2
    go_ret
    exact ⟨by rw [HK.out]; rfl, rfl⟩
  · have HK := Lib.hid (show ltB c = false by unfold ltB; simp; omega)
    have b0 : decide ((65 : Int) ≤ c.toNat) = true := by simp; omega
    have b1 : decide ((97 : Int) ≤ c.toNat) = true := by simp; omega
    have b2 : decide ((c.toNat : Int) ≤ 90) = false := by simp; omega
    have b3 : decide ((c.toNat : Int) ≤ 122) = false := by simp; omega
    clear h
    go_enter Tryz.func269, Tryz.ntmps269
    go_wp2
    go_ret
    exact ⟨by rw [HK.out]; rfl, rfl⟩
theorem isDigit_any (c : UInt8) (w : World) : Calls Tryz.prog 270 #[.int .u8 c.toNat] w fun e w' => e = .returned (.bool (dgB c)) ∧ w = w' := by
  rcases (show c.toNat < 48 ∨ (48 ≤ c.toNat ∧ c.toNat ≤ 57) ∨ 58 ≤ c.toNat by omega) with h | h | h
  · have HK := Lib.hid (show dgB c = false by unfold dgB; simp; omega)
    have b0 : decide ((48 : Int) ≤ c.toNat) = false := by simp; omega
    have b1 : decide ((c.toNat : Int) ≤ 57) = true := by simp; omega
    clear h
    go_enter Tryz.func270, Tryz.ntmps270
    go_wp2
    go_ret
    exact ⟨by rw [HK.out]; rfl, rfl⟩
  · have HK := Lib.hid (show dgB c = true by unfold dgB; simp; omega)
    have b0 : decide ((48 : Int) ≤ c.toNat) = true := by simp; omega
    have b1 : decide ((c.toNat : Int) ≤ 57) = true := by simp; omega
    clear h
    go_enter Tryz.func270, Tryz.ntmps270
    go_wp2
    go_ret
    exact ⟨by rw [HK.out]; rfl, rfl⟩
  · have HK := Lib.hid (show dgB c = false by unfold dgB; simp; omega)
    have b0 : decide ((48 : Int) ≤ c.toNat) = true := by simp; omega
    have b1 : decide ((c.toNat : Int) ≤ 57) = false := by simp; omega
    clear h
    go_enter Tryz.func270, Tryz.ntmps270
    go_wp2
    go_ret
    exact ⟨by rw [HK.out]; rfl, rfl⟩
theorem opensMark_any (l : B) (w : World) : Calls Tryz.prog 249 #[.string ⟨l.toArray⟩] w fun e w' => e = .returned (.bool (opn l)) ∧ w = w' := by
  cases l with
  | nil =>
    go_enter Tryz.func249, Tryz.ntmps249
    go_wp2
    go_ret
    exact ⟨rfl, rfl⟩
  | cons c r =>
    have hat := byte_at (c :: r) 0 c rfl
    have HL := Lib.hid (fun w => isLetter_any c w)
    have HO := Lib.hid (show opn (c :: r) = (ltB c || c == 47 || c == 33) from rfl)
    have h47 : ((c.toNat : Int) == 47) = (c == 47) := by rw [Bool.eq_iff_iff, beq_iff_eq, beq_iff_eq, ← UInt8.toNat_inj]; show _ ↔ c.toNat = 47; omega
    have h33 : ((c.toNat : Int) == 33) = (c == 33) := by rw [Bool.eq_iff_iff, beq_iff_eq, beq_iff_eq, ← UInt8.toNat_inj]; show _ ↔ c.toNat = 33; omega
    rw [← h47, ← h33] at HO
    clear h47 h33
    generalize opn (c :: r) = z at *
    generalize ltB c = lt at *
    cases h1 : lt with
    | true =>
      subst h1
      go_enter Tryz.func249, Tryz.ntmps249
      go_wp2_with (go_at_call 269; refine (HL.out _).mono ?_; rintro e w' ⟨rfl, rfl⟩)
      go_ret
      exact ⟨by rw [HO.out]; rfl, rfl⟩
    | false =>
      subst h1
      cases h2 : ((c.toNat : Int) == 47) with
      | true =>
        rw [h2] at HO
        go_enter Tryz.func249, Tryz.ntmps249
        go_wp2_with (go_at_call 269; refine (HL.out _).mono ?_; rintro e w' ⟨rfl, rfl⟩)
        go_ret
        exact ⟨by rw [HO.out]; rfl, rfl⟩
      | false =>
        rw [h2] at HO
        cases h3 : ((c.toNat : Int) == 33) with
        | true =>
          rw [h3] at HO
          go_enter Tryz.func249, Tryz.ntmps249
          go_wp2_with (go_at_call 269; refine (HL.out _).mono ?_; rintro e w' ⟨rfl, rfl⟩)
          go_ret
          exact ⟨by rw [HO.out]; rfl, rfl⟩
        | false =>
          rw [h3] at HO
          go_enter Tryz.func249, Tryz.ntmps249
          go_wp2_with (go_at_call 269; refine (HL.out _).mono ?_; rintro e w' ⟨rfl, rfl⟩)
          go_ret
          exact ⟨by rw [HO.out]; rfl, rfl⟩
abbrev mkV (n : B) (c : Bool) : Value := .agg #[.string ⟨n.toArray⟩, .bool c]
def Mb (b : Nat) (n : B) (c : Bool) (W : World) : Prop := W.heap[b]? = some (.cells #[.string ⟨n.toArray⟩, .bool c] 197)
theorem Mb.lt {b : Nat} {n : B} {c : Bool} {W : World} (h : Mb b n c W) : b < W.heap.size := (Array.getElem?_eq_some_iff.1 h).1
theorem Mb.kept {b : Nat} {n : B} {c : Bool} {W W' : World} (h : Mb b n c W) (k : Kept W W') : Mb b n c W' := (k.block _ h.lt).trans h
theorem Mb.cells {b : Nat} {n : B} {c : Bool} {W : World} (h : Mb b n c W) : W.cell? ⟨b, 0, none⟩ = some (.string ⟨n.toArray⟩) ∧ W.cell? ⟨b, 1, none⟩ = some (.bool c) := ⟨cell_at h rfl, cell_at h rfl⟩
theorem Mb.new (W : World) (n : B) (c : Bool) : Mb W.heap.size n c (W.alloc (.cells #[.string ⟨n.toArray⟩, .bool c] 197)) := World.alloc_heap_new W _
set_option maxRecDepth 100000 in
theorem hides_any (n : B) (c : Bool) (w : World) : Calls Tryz.prog 251 #[mkV n c] w fun e w' => e = .returned (.bool (!c && hidN n)) ∧ Kept w w' := by
  have B0 := Lib.hid (Mb.new w n c)
  have K0 := Lib.hid ((Kept.refl w).alloc (.cells #[.string ⟨n.toArray⟩, .bool c] 197))
  cases c with
  | true =>
    go_enter Tryz.func251, Tryz.ntmps251
    go_upto_region 1 with (fail)
    generalize w.alloc (.cells #[.string ⟨n.toArray⟩, .bool true] 197) = x0 at *
    obtain ⟨c0, c1⟩ := B0.out.cells
    go_wp2
    go_ret
    exact ⟨rfl, K0.out⟩
  | false =>
    have HN := Lib.hid (show hidN n = ((n == [115, 99, 114, 105, 112, 116]) || (n == [115, 116, 121, 108, 101])) from rfl)
    generalize hidN n = z at *
    cases h1 : (n == [115, 99, 114, 105, 112, 116]) with
    | true =>
      rw [h1] at HN
      go_enter Tryz.func251, Tryz.ntmps251
      go_upto_region 1 with (fail)
      generalize w.alloc (.cells #[.string ⟨n.toArray⟩, .bool false] 197) = x0 at *
      obtain ⟨c0, c1⟩ := B0.out.cells
      go_wp2
      go_ret
      exact ⟨by rw [HN.out]; rfl, K0.out⟩
    | false =>
      rw [h1] at HN
      cases h2 : (n == [115, 116, 121, 108, 101]) with
      | true =>
        rw [h2] at HN
        go_enter Tryz.func251, Tryz.ntmps251
        go_upto_region 1 with (fail)
        generalize w.alloc (.cells #[.string ⟨n.toArray⟩, .bool false] 197) = x0 at *
        obtain ⟨c0, c1⟩ := B0.out.cells
        go_wp2
        go_ret
        exact ⟨by rw [HN.out]; rfl, K0.out⟩
      | false =>
        rw [h2] at HN
        go_enter Tryz.func251, Tryz.ntmps251
        go_upto_region 1 with (fail)
        generalize w.alloc (.cells #[.string ⟨n.toArray⟩, .bool false] 197) = x0 at *
        obtain ⟨c0, c1⟩ := B0.out.cells
        go_wp2
        go_ret
        exact ⟨by rw [HN.out]; rfl, K0.out⟩
theorem lower_any (t : B) (w : World) (hE : EnvP w) (hl : t.length ≤ 4000000) : Calls Tryz.prog 271 #[.string ⟨t.toArray⟩] w fun e w' => e = .returned (.string ⟨(Lib.toLowerD t).toArray⟩) ∧ Kept w w' := by
  refine (Tryz.strings_ToLower_any ⟨t.toArray⟩ w (by rw [show (ByteArray.mk t.toArray).size = t.length from List.size_toArray]; omega) hE.cv hE.env.1).mono ?_
  rintro e w1 ⟨rfl, hb⟩
  exact ⟨by simp, Kept.of_below hb⟩
def bgn (s n : B) : Bool := lo (s.take n.length) == n
set_option maxRecDepth 100000 in
theorem beginsWith_any (s n : B) (w : World) (hE : EnvP w) (hs : s.length ≤ 4000000) (hn : ∀ x ∈ n, x.toNat < 128) : Calls Tryz.prog 252 #[.string ⟨s.toArray⟩, .string ⟨n.toArray⟩] w fun e w' => e = .returned (.bool (bgn s n)) ∧ Kept w w' := by
  by_cases h : n.length ≤ s.length
  · have hI : (n.length : Int) ≤ s.length := by omega
    have hct := cut_to s n.length h
    have htl : (s.take n.length).length = n.length := by rw [List.length_take]; omega
    have HT := Lib.hid (fun w (hE : EnvP w) => lower_any (s.take n.length) w hE (by omega))
    have HB := Lib.hid (show bgn s n = (Lib.toLowerD (s.take n.length) == n) by
      unfold bgn; rw [Bool.eq_iff_iff, beq_iff_eq, beq_iff_eq]; exact (low_name hn htl).symm)
    have HE := Lib.hid hE
    clear hE hn h htl
    generalize s.take n.length = t at *
    generalize Lib.toLowerD t = t1 at *
    generalize bgn s n = z at *
    cases hz : (t1 == n) with
    | true =>
      rw [hz] at HB
      go_enter Tryz.func252, Tryz.ntmps252
      go_wp2_with (go_at_call 271; refine (HT.out _ HE.out).mono ?_; rintro e w1 ⟨rfl, k1⟩)
      go_ret
      exact ⟨by rw [HB.out]; rfl, k1⟩
    | false =>
      rw [hz] at HB
      go_enter Tryz.func252, Tryz.ntmps252
      go_wp2_with (go_at_call 271; refine (HT.out _ HE.out).mono ?_; rintro e w1 ⟨rfl, k1⟩)
      go_ret
      exact ⟨by rw [HB.out]; rfl, k1⟩
  · have hI : ¬ (n.length : Int) ≤ s.length := by omega
    have HB := Lib.hid (show bgn s n = false by
      unfold bgn; rw [beq_eq_false_iff_ne]; intro e
      have := congrArg List.length e
      unfold lo at this
      rw [List.length_map, List.length_take] at this; omega)
    clear h hE hn
    go_enter Tryz.func252, Tryz.ntmps252
    go_wp2
    go_ret
    exact ⟨by rw [HB.out]; rfl, Kept.refl _⟩
theorem pre_clo (l : B) : Lib.hasPrefix l [47] = clo l := by
  unfold Lib.hasPrefix
  cases l with
  | nil => rfl
  | cons c r =>
    rw [List.isPrefixOf, List.isPrefixOf, Bool.and_true]
    show ((47 : UInt8) == c) = (c == 47)
    rw [Bool.eq_iff_iff, beq_iff_eq, beq_iff_eq]; exact ⟨fun e => e.symm, fun e => e.symm⟩
theorem trim_cor (l : B) : Lib.trimPrefix l [47] = cor l := by
  unfold Lib.trimPrefix cor
  rw [pre_clo]; rfl
theorem cor_len (l : B) : (cor l).length ≤ l.length := by
  unfold cor; split
  · rw [List.length_drop]; omega
  · exact Nat.le_refl _
theorem Mb.frz {b : Nat} {n : B} {c : Bool} {W : World} (h : Mb b n c W) (j : Nat) : W.frozen? ⟨b, j, none⟩ = false := by unfold Mb at h; simp [World.frozen?, h]
theorem Mb.set {b : Nat} {n : B} {c : Bool} {W : World} (h : Mb b n c W) (n' : B) (c' : Bool) : Mb b n' c' ((W.setCell ⟨b, 0, none⟩ (.string ⟨n'.toArray⟩)).setCell ⟨b, 1, none⟩ (.bool c')) := by
  unfold Mb at h ⊢
  simp [World.setCell, Array.getElem?_modify, h]
theorem tw_step {l : B} {i : Nat} {c : UInt8} (h : l[i]? = some c) (q : wdB c = true) (hT : l.takeWhile wdB = l.take i ++ (l.drop i).takeWhile wdB) : l.takeWhile wdB = l.take (i + 1) ++ (l.drop (i + 1)).takeWhile wdB := by
  obtain ⟨hi, rfl⟩ := List.getElem?_eq_some_iff.1 h
  have e : l.take (i + 1) = l.take i ++ [l[i]] := by rw [List.take_add_one, h]; rfl
  rw [hT, e, List.drop_eq_getElem_cons hi, List.takeWhile_cons, if_pos q, List.append_assoc]; rfl
theorem tw_stop {l : B} {i : Nat} (h : ∀ c, l[i]? = some c → wdB c = false) (hT : l.takeWhile wdB = l.take i ++ (l.drop i).takeWhile wdB) : l.takeWhile wdB = l.take i := by
  rw [hT]
  cases hd : l.drop i with
  | nil => simp
  | cons c r =>
    have hi : l[i]? = some c := by
      have := congrArg List.head? hd
      rw [List.head?_drop] at this
      simpa using this
    rw [List.takeWhile_cons, if_neg (by rw [h c hi]; decide)]
    simp
theorem tw_word (l : B) : ∀ c ∈ l.takeWhile wdB, wdB c = true := fun c h => by
  induction l with
  | nil => simp at h
  | cons a r ih =>
    rw [List.takeWhile_cons] at h
    split at h
    · rcases List.mem_cons.1 h with rfl | h
      · assumption
      · exact ih h
    · cases h
set_option maxRecDepth 100000 in
set_option maxHeartbeats 4000000 in
theorem markOf_any (l : B) (w : World) (hE : EnvP w) (hl : l.length ≤ 2000000) : Calls Tryz.prog 250 #[.string ⟨l.toArray⟩] w fun e w' => e = .returned (mkV (nam l) (clo l)) ∧ Kept w w' := by
  have B0 := Lib.hid (Mb.new w [] false)
  have K0 := Lib.hid ((Kept.refl w).alloc (.cells #[.string ⟨([] : B).toArray⟩, .bool false] 197))
  have HC := Lib.hid (fun w => cutp l [47] w)
  have hcl := cor_len l
  have HN := Lib.hid (show nam l = lo ((cor l).takeWhile wdB) from rfl)
  have HE := Lib.hid hE
  rw [pre_clo, trim_cor] at HC
  generalize cor l = x at *
  generalize clo l = cl at *
  generalize nam l = z at *
  clear hE
  go_enter Tryz.func250, Tryz.ntmps250
  go_upto_region 1 with (fail)
  generalize w.alloc (.cells #[.string ⟨#[]⟩, .bool false] 197) = x0 at *
  go_wp2_with (go_at_call 190; refine (HC.out _).mono ?_; rintro e w1 ⟨rfl, rfl⟩)
  go_loopw [4] (fun vi wr => ∃ i : Nat, i ≤ x.length ∧ vi = .int .i64 i ∧ Hid (x.takeWhile wdB = x.take i ++ (x.drop i).takeWhile wdB) ∧ Hid (wr = x0)) (fun vi _ => x.length - (intOf vi).toNat)
  case atStart => exact ⟨0, Nat.zero_le _, rfl, Lib.hid (by simp), Lib.hid rfl⟩
  case round =>
    obtain ⟨i, hi, rfl, hT, hW⟩ := hrel
    obtain rfl := hW.out
    clear hW
    have fin : ∀ (hs : ∀ c, x[i]? = some c → wdB c = false), Hid (lo (x.take i) = z ∧ Lib.toLowerD (x.take i) = lo (x.take i)) := fun hs => by
      have e := tw_stop hs hT.out
      refine Lib.hid ⟨by rw [HN.out, e], low_word (fun c hc => ?_)⟩
      rw [← e] at hc
      exact tw_word x c hc
    have F := Lib.hid fin
    clear fin
    have hct := cut_to x i hi
    have HL := Lib.hid (fun w (hE : EnvP w) => lower_any (x.take i) w hE (by rw [List.length_take]; omega))
    have HFin : ∀ (hs : ∀ c, x[i]? = some c → wdB c = false), Hid (∀ w, EnvP w → Calls Tryz.prog 271 #[.string ⟨(x.take i).toArray⟩] w fun e w' => e = .returned (.string ⟨z.toArray⟩) ∧ Kept w w') := fun hs => Lib.hid (fun w hE => by
      have := HL.out w hE
      rw [(F.out hs).out.2, (F.out hs).out.1] at this
      exact this)
    have HF := Lib.hid HFin
    clear HFin F HL
    have fin2 : ∀ (w1 : World), Kept wr w1 → Hid (Mb w.heap.size z cl ((w1.setCell ⟨w.heap.size, 0, none⟩ (.string ⟨z.toArray⟩)).setCell ⟨w.heap.size, 1, none⟩ (.bool cl)) ∧ Kept w ((w1.setCell ⟨w.heap.size, 0, none⟩ (.string ⟨z.toArray⟩)).setCell ⟨w.heap.size, 1, none⟩ (.bool cl))) := fun w1 k1 =>
      Lib.hid ⟨(B0.out.kept k1).set z cl, ((K0.out.trans k1).setCell (Nat.le_refl _) _).setCell (Nat.le_refl _) _⟩
    have F2 := Lib.hid fin2
    clear fin2
    by_cases hlt : i < x.length
    · have hltI : (i : Int) < x.length := by omega
      obtain ⟨c, hc⟩ : ∃ c, x[i]? = some c := ⟨_, List.getElem?_eq_getElem hlt⟩
      have hat := byte_at x i c hc
      have HLt := Lib.hid (fun w => isLetter_any c w)
      have HDg := Lib.hid (fun w => isDigit_any c w)
      cases hw1 : ltB c with
      | true =>
        have HT := Lib.hid (tw_step hc (by unfold wdB; rw [hw1]; rfl) hT.out)
        rw [hw1] at HLt
        clear hc hw1 hT HF F2 HDg hct
        go_wp2_with (go_at_call 269; refine (HLt.out _).mono ?_; rintro e w' ⟨rfl, rfl⟩)
        go_roundw
        case rel => exact ⟨i + 1, hlt, by go_num, HT, Lib.hid trivial⟩
        case measure => simp [intOf]; omega
      | false =>
        rw [hw1] at HLt
        cases hw2 : dgB c with
        | true =>
          have HT := Lib.hid (tw_step hc (by unfold wdB; rw [hw2, Bool.or_true]) hT.out)
          rw [hw2] at HDg
          clear hc hw1 hw2 hT HF F2 hct
          go_wp2_with (first | (go_at_call 269; refine (HLt.out _).mono ?_; rintro e w' ⟨rfl, rfl⟩) | (go_at_call 270; refine (HDg.out _).mono ?_; rintro e w' ⟨rfl, rfl⟩))
          go_roundw
          case rel => exact ⟨i + 1, hlt, by go_num, HT, Lib.hid trivial⟩
          case measure => simp [intOf]; omega
        | false =>
          rw [hw2] at HDg
          have HQ := HF.out (fun c' h' => by rw [hc] at h'; cases h'; unfold wdB; rw [hw1, hw2]; rfl)
          clear hc hw1 hw2 hT HF
          generalize x.take i = y at *
          go_wp2_with (first | (go_at_call 269; refine (HLt.out _).mono ?_; rintro e w' ⟨rfl, rfl⟩) | (go_at_call 270; refine (HDg.out _).mono ?_; rintro e w' ⟨rfl, rfl⟩) | fail)
          refine (HQ.out _ (HE.out.kept K0.out)).mono ?_
          rintro e w1 ⟨rfl, k1⟩
          have Z := F2.out w1 k1
          obtain ⟨c0, c1⟩ := (B0.out.kept k1).cells
          have z0 := (B0.out.kept k1).frz 0
          have z1 := (B0.out.kept k1).frz 1
          clear F2 k1
          go_wp2
          exact bodyPost_ret (v := mkV z cl) (results_cell_row Tryz.results250 _ _ w.heap.size 197 _ (0, 0) _ rfl Z.out.1 Tryz.underlying197 rfl (by kernel_rfl)) rfl ⟨rfl, Z.out.2⟩
    · obtain rfl : i = x.length := by omega
      have HQ := HF.out (fun c' h' => by simp at h')
      clear hT HF
      generalize x.take x.length = y at *
      go_wp2_with fail
      refine (HQ.out _ (HE.out.kept K0.out)).mono ?_
      rintro e w1 ⟨rfl, k1⟩
      have Z := F2.out w1 k1
      obtain ⟨c0, c1⟩ := (B0.out.kept k1).cells
      have z0 := (B0.out.kept k1).frz 0
      have z1 := (B0.out.kept k1).frz 1
      clear F2 k1
      go_wp2
      exact bodyPost_ret (v := mkV z cl) (results_cell_row Tryz.results250 _ _ w.heap.size 197 _ (0, 0) _ rfl Z.out.1 Tryz.underlying197 rfl (by kernel_rfl)) rfl ⟨rfl, Z.out.2⟩
theorem hit_eq (n l : B) : hit n l = (Lib.hasPrefix l [60, 47] && bgn (Lib.trimPrefix l [60, 47]) n) := by
  have h : (l.take 2 == [60, 47]) = Lib.hasPrefix l [60, 47] := by
    unfold Lib.hasPrefix
    rw [Bool.eq_iff_iff, beq_iff_eq, List.isPrefixOf_iff_prefix]
    constructor
    · intro e; exact ⟨l.drop 2, by rw [← e, List.take_append_drop]⟩
    · rintro ⟨t, rfl⟩; rfl
  unfold hit bgn
  rw [h]
  unfold Lib.trimPrefix
  cases Lib.hasPrefix l [60, 47] <;> rfl
theorem skp_at {n l : B} {i : Nat} (hi : i < l.length) : skp n (l.drop i) = if hit n (l.drop i) = true then l.drop i else skp n (l.drop (i + 1)) := by
  rw [List.drop_eq_getElem_cons hi, skp]
theorem trp_len (l : B) (p : B) : (Lib.trimPrefix l p).length ≤ l.length := by
  unfold Lib.trimPrefix; split
  · rw [List.length_drop]; omega
  · exact Nat.le_refl _
theorem hidN_ascii {n : B} (h : hidN n = true) : ∀ x ∈ n, x.toNat < 128 := by
  unfold hidN at h
  simp only [Bool.or_eq_true, beq_iff_eq] at h
  rcases h with rfl | rfl <;> decide
def hsk (n : B) (c : Bool) (l : B) : B := if (!c && hidN n) = true then skp n l else l
theorem rst_hsk (r : B) : rst r = hsk (nam r) (clo r) (aft r) := rfl
set_option maxRecDepth 100000 in
set_option maxHeartbeats 4000000 in
theorem skipHidden_any (n : B) (c : Bool) (l : B) (w : World) (hE : EnvP w) (hl : l.length ≤ 2000000) : Calls Tryz.prog 216 #[mkV n c, .string ⟨l.toArray⟩] w fun e w' => e = .returned (.string ⟨(hsk n c l).toArray⟩) ∧ Kept w w' := by
  have B0 := Lib.hid (Mb.new w n c)
  have K0 := Lib.hid ((Kept.refl w).alloc (.cells #[.string ⟨n.toArray⟩, .bool c] 197))
  have HH := Lib.hid (fun w => hides_any n c w)
  have HE := Lib.hid hE
  clear hE
  cases hh : (!c && hidN n) with
  | false =>
    have HR := Lib.hid (show hsk n c l = l by unfold hsk; rw [hh]; rfl)
    rw [hh] at HH
    clear hh
    go_enter Tryz.func216, Tryz.ntmps216
    go_upto_region 1 with (fail)
    generalize w.alloc (.cells #[.string ⟨n.toArray⟩, .bool c] 197) = x0 at *
    obtain ⟨c0, c1⟩ := B0.out.cells
    go_wp2_with fail
    refine (HH.out _).mono ?_
    rintro e w1 ⟨rfl, k1⟩
    have K1 := K0.out.trans k1
    go_wp2
    go_ret
    exact ⟨by rw [HR.out]; rfl, K1⟩
  | true =>
    have HR := Lib.hid (show hsk n c l = skp n l by unfold hsk; rw [hh]; rfl)
    have HA := Lib.hid (hidN_ascii (show hidN n = true by simp at hh; exact hh.2))
    rw [hh] at HH
    clear hh
    go_enter Tryz.func216, Tryz.ntmps216
    go_upto_region 1 with (fail)
    generalize w.alloc (.cells #[.string ⟨n.toArray⟩, .bool c] 197) = x0 at *
    obtain ⟨c0, c1⟩ := B0.out.cells
    go_wp2_with fail
    refine (HH.out _).mono ?_
    rintro e w1 ⟨rfl, k1⟩
    have K1 := Lib.hid (K0.out.trans k1)
    have B1 := Lib.hid (B0.out.kept k1)
    clear c0 c1 k1 B0 K0 HH
    go_wp2_with fail
    go_loopw [14] (fun vi wr => ∃ i : Nat, i ≤ l.length ∧ vi = .int .i64 i ∧ Hid (skp n l = skp n (l.drop i)) ∧ Hid (Kept w wr) ∧ Hid (Mb w.heap.size n c wr)) (fun vi _ => l.length - (intOf vi).toNat)
    case atStart => exact ⟨0, Nat.zero_le _, rfl, Lib.hid rfl, K1, B1⟩
    case round =>
      obtain ⟨i, hi, rfl, hS, hK, hB⟩ := hrel
      by_cases hlt : i < l.length
      · have hltI : (i : Int) < l.length := by omega
        have hcf := cut_from l (i : Int) i rfl (by omega)
        have HC := Lib.hid (fun w => cutp (l.drop i) [60, 47] w)
        have HS := Lib.hid (skp_at (n := n) hlt)
        rw [hit_eq] at HS
        have HG := Lib.hid (fun w (hE : EnvP w) => beginsWith_any (Lib.trimPrefix (l.drop i) [60, 47]) n w hE (by have := trp_len (l.drop i) [60, 47]; rw [List.length_drop] at this; omega) HA.out)
        obtain ⟨c0, c1⟩ := hB.out.cells
        have HW := Lib.hid (HE.out.kept hK.out)
        generalize Lib.trimPrefix (l.drop i) [60, 47] = y at *
        generalize bgn y n = bg at *
        cases hp : Lib.hasPrefix (l.drop i) [60, 47] with
        | false =>
          rw [hp] at HC HS
          have HN := Lib.hid (show skp n l = skp n (l.drop (i + 1)) by rw [hS.out, HS.out]; rfl)
          clear HS hS hp HG
          generalize l.drop i = z at *
          go_wp2_with (go_at_call 190; refine (HC.out _).mono ?_; rintro e w' ⟨rfl, rfl⟩)
          go_roundw
          case rel => exact ⟨i + 1, hlt, by go_num, HN, hK, hB⟩
          case measure => simp [intOf]; omega
        | true =>
          rw [hp] at HC HS
          cases hb : bg with
          | false =>
            subst hb
            have HN := Lib.hid (show skp n l = skp n (l.drop (i + 1)) by rw [hS.out, HS.out]; rfl)
            clear HS hS hp
            generalize l.drop i = z at *
            go_wp2_with (first | (go_at_call 190; refine (HC.out _).mono ?_; rintro e w' ⟨rfl, rfl⟩) | fail)
            refine (HG.out _ HW.out).mono ?_
            rintro e w2 ⟨rfl, k2⟩
            have K2 := Lib.hid (hK.out.trans k2)
            have B2 := Lib.hid (hB.out.kept k2)
            clear k2
            go_wp2
            go_roundw
            case rel => exact ⟨i + 1, hlt, by go_num, HN, K2, B2⟩
            case measure => simp [intOf]; omega
          | true =>
            subst hb
            have HN := Lib.hid (show skp n l = l.drop i by rw [hS.out, HS.out]; rfl)
            clear HS hS hp
            generalize l.drop i = z at *
            go_wp2_with (first | (go_at_call 190; refine (HC.out _).mono ?_; rintro e w' ⟨rfl, rfl⟩) | fail)
            refine (HG.out _ HW.out).mono ?_
            rintro e w2 ⟨rfl, k2⟩
            have K2 := Lib.hid (hK.out.trans k2)
            clear k2
            go_wp2
            go_ret
            exact ⟨by rw [HR.out, HN.out]; rfl, K2.out⟩
      · obtain rfl : i = l.length := by omega
        have HN := Lib.hid (show skp n l = [] by rw [hS.out]; simp [skp])
        clear hS
        go_wp2
        go_ret
        exact ⟨by rw [HR.out, HN.out]; rfl, hK.out⟩
def bod (r : B) : B := r.takeWhile fun c => c != 62
theorem bod_len : ∀ l : B, (bod l).length ≤ l.length
  | [] => by simp [bod]
  | a :: r => by
    have := bod_len r
    unfold bod at *
    rw [List.takeWhile_cons]; split <;> simp; omega
theorem cut_gt : ∀ (l : B), (Lib.cut l [62]).1 = bod l ∧ (Lib.cut l [62]).2.1 = aft l := by
  have key : ∀ (l : B), (Lib.index l [62] = if (bod l).length < l.length then ((bod l).length : Int) else -1) ∧ l.take (bod l).length = bod l ∧ aft l = l.drop ((bod l).length + 1) := by
    intro l
    induction l with
    | nil => exact ⟨rfl, rfl, rfl⟩
    | cons b l ih =>
      obtain ⟨ih1, ih2, ih3⟩ := ih
      have hle := bod_len l
      rw [Lib.index, ih1]
      by_cases hb : b = 62
      · subst hb
        exact ⟨rfl, rfl, by rw [aft, if_pos rfl]; rfl⟩
      · have e : bod (b :: l) = b :: bod l := by unfold bod; rw [List.takeWhile_cons, if_pos (by simpa using hb)]
        have hp : List.isPrefixOf [62] (b :: l) = false := by
          rw [List.isPrefixOf, List.isPrefixOf, Bool.and_true, beq_eq_false_iff_ne]; exact fun q => hb q.symm
        refine ⟨?_, by rw [e, List.length_cons, List.take_succ_cons, ih2], by rw [aft, if_neg hb, ih3, e, List.length_cons, List.drop_succ_cons]⟩
        rw [hp, e, List.length_cons, List.length_cons]
        by_cases h : (bod l).length < l.length
        · have h2 : (bod l).length + 1 < l.length + 1 := by omega
          have h3 : ((((bod l).length : Int)) == -1) = false := by rw [beq_eq_false_iff_ne]; omega
          rw [if_pos h, if_pos h2, h3, if_neg (by decide), if_neg (by decide)]; omega
        · have h2 : ¬ (bod l).length + 1 < l.length + 1 := by omega
          rw [if_neg h, if_neg h2]; rfl
  intro l
  obtain ⟨k1, k2, k3⟩ := key l
  have hle := bod_len l
  unfold Lib.cut
  rw [k1]
  by_cases h : (bod l).length < l.length
  · rw [if_pos h, if_pos (by omega), Int.toNat_natCast, k2, k3]; exact ⟨rfl, rfl⟩
  · rw [if_neg h, if_neg (by decide)]
    have e : (bod l).length = l.length := by omega
    exact ⟨by rw [← k2, e, List.take_length], by rw [k3, e, List.drop_eq_nil_of_le (by omega)]⟩
theorem tw_bod : ∀ (x : B), (bod x).takeWhile wdB = x.takeWhile wdB
  | [] => rfl
  | c :: r => by
    have ih := tw_bod r
    unfold bod at *
    by_cases h : c = 62
    · subst h; rfl
    · rw [List.takeWhile_cons, if_pos (by simpa using h), List.takeWhile_cons, List.takeWhile_cons, ih]
theorem bod_mark {r : B} (h : opn r = true) : clo (bod r) = clo r ∧ nam (bod r) = nam r := by
  cases r with
  | nil => cases h
  | cons c r =>
    have hc : c ≠ 62 := fun e => by subst e; simp [opn, ltB] at h
    have e : bod (c :: r) = c :: bod r := by unfold bod; rw [List.takeWhile_cons, if_pos (by simpa using hc)]
    have e2 : clo (c :: bod r) = clo (c :: r) := rfl
    refine ⟨by rw [e, e2], ?_⟩
    unfold nam
    congr 1
    rw [← tw_bod (cor (c :: r))]
    congr 1
    rw [e]
    unfold cor
    rw [e2]
    split
    · rfl
    · rw [e]
theorem fm_step {l : B} {i : Nat} {c : UInt8} (h : l[i]? = some c) (hF : fm l = (fm (l.drop i)).map fun p => (l.take i ++ p.1, p.2)) :
    (isM c (l.drop (i + 1)) = true → fm l = some (l.take i, l.drop (i + 1))) ∧ (isM c (l.drop (i + 1)) = false → fm l = (fm (l.drop (i + 1))).map fun p => (l.take (i + 1) ++ p.1, p.2)) := by
  obtain ⟨hi, rfl⟩ := List.getElem?_eq_some_iff.1 h
  have e : l.take (i + 1) = l.take i ++ [l[i]] := by rw [List.take_add_one, h]; rfl
  refine ⟨fun q => ?_, fun q => ?_⟩
  · rw [hF, List.drop_eq_getElem_cons hi, fm, if_pos q]
    rw [Option.map_some, List.append_nil]
  · rw [hF, List.drop_eq_getElem_cons hi, fm, if_neg (by rw [q]; decide), Option.map_map, e]
    congr 1
    funext p
    simp only [Function.comp, List.append_assoc]
    rfl
theorem kept_setRow {w x : World} (h : Kept w x) {g : Nat} (hg : w.heap.size ≤ g) (cs : Array Value) : Kept w (x.setRow g cs) :=
  ⟨h.os, h.output, by rw [setRow_size]; exact h.size, fun k hk => (setRow_other _ _ _ _ (by omega)).trans (h.block k hk), h.tape⟩
def cmV (l : B) : Value := match fm l with
  | none => .tuple #[.string ⟨l.toArray⟩, mkV [] false, .string ⟨#[]⟩, .bool false]
  | some (a, r) => .tuple #[.string ⟨a.toArray⟩, mkV (nam r) (clo r), .string ⟨(aft r).toArray⟩, .bool true]
set_option maxRecDepth 100000 in
set_option maxHeartbeats 4000000 in
theorem cutMark_any (l : B) (w : World) (hE : EnvP w) (hl : l.length ≤ 2000000) : Calls Tryz.prog 214 #[.string ⟨l.toArray⟩] w fun e w' => e = .returned (cmV l) ∧ Kept w w' := by
  have B0 := Lib.hid (Mb.new w [] false)
  have K0 := Lib.hid ((Kept.refl w).alloc (.cells #[.string ⟨([] : B).toArray⟩, .bool false] 197))
  have HE := Lib.hid hE
  clear hE
  go_enter Tryz.func214, Tryz.ntmps214
  go_upto_region 1 with (fail)
  generalize w.alloc (.cells #[.string ⟨#[]⟩, .bool false] 197) = x0 at *
  go_wp2
  go_loopw [12] (fun vi wr => ∃ i : Nat, i ≤ l.length ∧ vi = .int .i64 i ∧ Hid (fm l = (fm (l.drop i)).map fun p => (l.take i ++ p.1, p.2)) ∧ Hid (wr = x0)) (fun vi _ => l.length - (intOf vi).toNat)
  case atStart => exact ⟨0, Nat.zero_le _, rfl, Lib.hid (by simp), Lib.hid rfl⟩
  case round =>
    obtain ⟨i, hi, rfl, hF, hW⟩ := hrel
    obtain rfl := hW.out
    rename_i x0
    clear hW
    by_cases hlt : i < l.length
    · have hltI : (i : Int) < l.length := by omega
      obtain ⟨c, hc⟩ : ∃ c, l[i]? = some c := ⟨_, List.getElem?_eq_getElem hlt⟩
      have hat := byte_at l i c hc
      obtain ⟨s1, s2⟩ := fm_step hc hF.out
      have S1 := Lib.hid s1
      have S2 := Lib.hid s2
      have h60 : ((c.toNat : Int) == 60) = (c == 60) := by rw [Bool.eq_iff_iff, beq_iff_eq, beq_iff_eq, ← UInt8.toNat_inj]; show _ ↔ c.toNat = 60; omega
      clear hF s1 s2 hc
      cases hq : (c == 60) with
      | false =>
        rw [hq] at h60
        have HN := Lib.hid (S2.out (by unfold isM; rw [hq]; rfl))
        clear S1 S2 hq
        go_wp2
        go_roundw
        case rel => exact ⟨i + 1, hlt, by go_num, HN, Lib.hid trivial⟩
        case measure => simp [intOf]; omega
      | true =>
        rw [hq] at h60
        have hcf := cut_from l ((i : Int) + 1) (i + 1) (by omega) (by omega)
        have HO := Lib.hid (fun w => opensMark_any (l.drop (i + 1)) w)
        cases ho : opn (l.drop (i + 1)) with
        | false =>
          rw [ho] at HO
          have HN := Lib.hid (S2.out (by unfold isM; rw [ho, Bool.and_false]))
          clear S1 S2 hq ho
          generalize l.drop (i + 1) = r at HO hcf
          go_wp2_with (go_at_call 249; refine (HO.out _).mono ?_; rintro e w' ⟨rfl, rfl⟩)
          go_roundw
          case rel => exact ⟨i + 1, hlt, by go_num, HN, Lib.hid trivial⟩
          case measure => simp [intOf]; omega
        | true =>
          rw [ho] at HO
          have hF := S1.out (by unfold isM; rw [hq, ho]; rfl)
          obtain ⟨b1, b2⟩ := bod_mark ho
          have HF := Lib.hid (show cmV l = .tuple #[.string ⟨(l.take i).toArray⟩, mkV (nam (l.drop (i + 1))) (clo (l.drop (i + 1))), .string ⟨(aft (l.drop (i + 1))).toArray⟩, .bool true] by unfold cmV; rw [hF])
          have hbl := bod_len (l.drop (i + 1))
          rw [List.length_drop] at hbl
          have HM := Lib.hid (fun w hE => markOf_any (bod (l.drop (i + 1))) w hE (by omega))
          rw [b1, b2] at HM
          obtain ⟨c1, c2⟩ := cut_gt (l.drop (i + 1))
          have HC := Lib.hid (show ∀ w, EnvP w → Calls Tryz.prog 51 #[.string ⟨(l.drop (i + 1)).toArray⟩, .string ⟨#[62]⟩] w fun e w' => (∃ b, e = .returned (.tuple #[.string ⟨(bod (l.drop (i + 1))).toArray⟩, .string ⟨(aft (l.drop (i + 1))).toArray⟩, .bool b])) ∧ Kept w w' from fun w hE => by
            obtain ⟨m, hm⟩ := hE.ml
            refine (Tryz.strings_Cut ⟨(l.drop (i + 1)).toArray⟩ ⟨#[62]⟩ m w (by rw [show (ByteArray.mk (l.drop (i + 1)).toArray).size = (l.drop (i + 1)).length from List.size_toArray, List.length_drop]; omega) hm).mono ?_
            rintro e w' ⟨rfl, n, rfl⟩
            exact ⟨⟨(Lib.cut (l.drop (i + 1)) [62]).2.2, by rw [← c1, ← c2]⟩, (Kept.refl w).drewN n⟩)
          have hct := cut_to l i (by omega)
          clear S1 S2 hq ho hF b1 b2 c1 c2 hbl
          generalize nam (l.drop (i + 1)) = nm at *
          generalize clo (l.drop (i + 1)) = cl at *
          generalize bod (l.drop (i + 1)) = bo at *
          generalize aft (l.drop (i + 1)) = af at *
          generalize l.drop (i + 1) = r at *
          go_wp2_with (first | (go_at_call 249; refine (HO.out _).mono ?_; rintro e w' ⟨rfl, rfl⟩) | (go_at_call 51; refine (HC.out _ (HE.out.kept K0.out)).mono ?_; rintro e w' ⟨⟨b, rfl⟩, k1⟩) | fail)
          have KD := Lib.hid (K0.out.trans (k1.trans (Kept.refl w').drew))
          have BD := Lib.hid (B0.out.kept (k1.trans (Kept.refl w').drew))
          have ED := Lib.hid (HE.out.kept KD.out)
          clear k1
          refine wp_region_held_drew (S := (fun _ => True)) (by kernel_rfl) trivial (fun hS0 => ?_)
          generalize w'.drew = x1 at *
          refine wpAnyH_take (i := 0) (oi := { dst := some 35, op := Go.Op.move (Go.Operand.tmp 0), type := 9, pos := "marks.go:44", after := #[], guard := none }) (v := ?vc0) rfl (by kernel_rfl) (by kernel_rfl) (by kernel_rfl) (fun _ _ _ h => h) (Or.inl ⟨by rfl, ?yc0⟩) (by assumption) ?rc0
          case yc0 => (intro wq hSw; (try dsimp only at hSw); go_simp; try with_reducible rfl)
          simp only [Act.put, List.setIfInBounds_toArray, List.set_cons_zero, List.set_cons_succ]
          refine wpAnyH_take (i := 1) (oi := { dst := some 36, op := Go.Op.move (Go.Operand.tmp 6), type := 3, pos := "marks.go:44", after := #[], guard := none }) (v := ?vc1) rfl (by kernel_rfl) (by kernel_rfl) (by kernel_rfl) (fun _ _ _ h => h) (Or.inl ⟨by rfl, ?yc1⟩) (by assumption) ?rc1
          case yc1 => (intro wq hSw; (try dsimp only at hSw); go_simp; try with_reducible rfl)
          simp only [Act.put, List.setIfInBounds_toArray, List.set_cons_zero, List.set_cons_succ]
          refine wpAnyH_take (i := 2) (oi := { dst := some 37, op := Go.Op.slice 9 (Go.Operand.tmp 35) none (some (Go.Operand.tmp 36)) none, type := 9, pos := "marks.go:44", after := #[{ on := 0, ground := Go.Ground.data }, { on := 1, ground := Go.Ground.data }], guard := none }) (v := ?vc2) rfl (by kernel_rfl) (by kernel_rfl) (by kernel_rfl) (fun _ _ _ h => h) (Or.inl ⟨by rfl, ?yc2⟩) (by assumption) ?rc2
          case yc2 => (intro wq hSw; (try dsimp only at hSw); go_simp; try with_reducible rfl)
          simp only [Act.put, List.setIfInBounds_toArray, List.set_cons_zero, List.set_cons_succ]
          refine wpAnyH_take (i := 3) (oi := { dst := some 38, op := Go.Op.move (Go.Operand.tmp 7), type := 9, pos := "marks.go:44", after := #[], guard := none }) (v := ?vc3) rfl (by kernel_rfl) (by kernel_rfl) (by kernel_rfl) (fun _ _ _ h => h) (Or.inl ⟨by rfl, ?yc3⟩) (by assumption) ?rc3
          case yc3 => (intro wq hSw; (try dsimp only at hSw); go_simp; try with_reducible rfl)
          simp only [Act.put, List.setIfInBounds_toArray, List.set_cons_zero, List.set_cons_succ]
          refine wpAnyH_take (i := 5) (oi := { dst := some 40, op := Go.Op.move (Go.Operand.tmp 8), type := 9, pos := "marks.go:44", after := #[{ on := 7, ground := Go.Ground.gcOnly Go.Departure.lateStores }], guard := none }) (v := ?vc5) rfl (by kernel_rfl) (by kernel_rfl) (by kernel_rfl) (fun _ _ _ h => h) (Or.inl ⟨by rfl, ?yc5⟩) (by assumption) ?rc5
          case yc5 => (intro wq hSw; (try dsimp only at hSw); go_simp; try with_reducible rfl)
          simp only [Act.put, List.setIfInBounds_toArray, List.set_cons_zero, List.set_cons_succ]
          refine wpAnyH_ready (rs := [4]) (by kernel_rfl) (by simp) (AllReadyH.cons (o := { dst := some 39, op := Go.Op.call { callee := Go.Callee.value (Go.Operand.func 250), args := #[Go.Operand.tmp 38], argTypes := #[9] }, type := 197, pos := "marks.go:44", after := #[{ on := 3, ground := Go.Ground.data }], guard := none }) rfl (fun K hK => ?_) AllReadyH.nil)
          go_simp
          refine (HM.out _ ED.out).mono ?_
          rintro e w2 ⟨rfl, k2⟩
          have K2 := Lib.hid (KD.out.trans k2)
          have B2 := Lib.hid (BD.out.kept k2)
          clear k2
          refine Shut.out hK _ _ trivial (fun hSb => ?_)
          clear hK K
          try simp only [Act.put, List.setIfInBounds_toArray, List.set_cons_zero, List.set_cons_succ]
          refine wpAnyH_take (i := 6) (oi := { dst := some 2, op := Go.Op.assign (Go.Operand.tmp 37), type := 9, pos := "marks.go:44", after := #[{ on := 2, ground := Go.Ground.data }, { on := 4, ground := Go.Ground.chain }, { on := 0, ground := Go.Ground.phase }, { on := 1, ground := Go.Ground.phase }, { on := 2, ground := Go.Ground.phase }, { on := 3, ground := Go.Ground.textOnly Go.Departure.lateStores }, { on := 4, ground := Go.Ground.textOnly Go.Departure.lateStoresUnsure }, { on := 5, ground := Go.Ground.textOnly Go.Departure.lateStores }], guard := none }) (v := ?vc6) rfl (by kernel_rfl) (by kernel_rfl) (by kernel_rfl) (fun _ _ _ h => h) (Or.inl ⟨by rfl, ?yc6⟩) (by assumption) ?rc6
          case yc6 => (intro wq hSw; (try dsimp only at hSw); go_simp; try with_reducible rfl)
          simp only [Act.put, List.setIfInBounds_toArray, List.set_cons_zero, List.set_cons_succ]
          refine wpAnyH_ready (rs := [7]) (by kernel_rfl) (by simp) (AllReadyH.cons (o := { dst := none, op := Go.Op.store 197 (Go.Operand.tmp 3) (Go.Operand.tmp 39), type := 0, pos := "marks.go:44", after := #[{ on := 4, ground := Go.Ground.data }, { on := 6, ground := Go.Ground.chain }, { on := 0, ground := Go.Ground.phase }, { on := 1, ground := Go.Ground.phase }, { on := 2, ground := Go.Ground.phase }, { on := 3, ground := Go.Ground.phase }, { on := 4, ground := Go.Ground.phase }, { on := 5, ground := Go.Ground.textOnly Go.Departure.lateStores }, { on := 6, ground := Go.Ground.phase }], guard := none }) rfl (fun K hK => ?_) AllReadyH.nil)
          rw [if_pos (by rfl)]
          refine wp_store_row 197 _ _ rfl w.heap.size #[.string ⟨nm.toArray⟩, .bool cl] rfl rfl 197 _ B2.out (by kernel_rfl) rfl (by simp [Value.oneCell']) ?_
          have B3 := Lib.hid (show Mb w.heap.size nm cl _ from setRow_heap _ _ _ #[.string ⟨nm.toArray⟩, .bool cl] _ _ B2.out)
          have K3 := Lib.hid (kept_setRow K2.out (Nat.le_refl _) #[.string ⟨nm.toArray⟩, .bool cl])
          generalize w2.setRow w.heap.size #[.string ⟨nm.toArray⟩, .bool cl] = x3 at *
          refine Shut.out hK _ _ trivial (fun hSb => ?_)
          clear hK K
          try simp only [Act.put, List.setIfInBounds_toArray, List.set_cons_zero, List.set_cons_succ]
          refine wpAnyH_take (i := 8) (oi := { dst := some 4, op := Go.Op.assign (Go.Operand.tmp 40), type := 9, pos := "marks.go:44", after := #[{ on := 5, ground := Go.Ground.data }, { on := 7, ground := Go.Ground.chain }, { on := 0, ground := Go.Ground.phase }, { on := 1, ground := Go.Ground.phase }, { on := 2, ground := Go.Ground.phase }, { on := 3, ground := Go.Ground.phase }, { on := 4, ground := Go.Ground.phase }, { on := 5, ground := Go.Ground.phase }, { on := 6, ground := Go.Ground.phase }, { on := 7, ground := Go.Ground.phase }], guard := none }) (v := ?vc8) rfl (by kernel_rfl) (by kernel_rfl) (by kernel_rfl) (fun _ _ _ h => h) (Or.inl ⟨by rfl, ?yc8⟩) (by assumption) ?rc8
          case yc8 => (intro wq hSw; (try dsimp only at hSw); go_simp; try with_reducible rfl)
          simp only [Act.put, List.setIfInBounds_toArray, List.set_cons_zero, List.set_cons_succ]
          refine wpAnyH_take (i := 9) (oi := { dst := some 5, op := Go.Op.assign (Go.Operand.const (Go.Value.bool true)), type := 4, pos := "marks.go:44", after := #[{ on := 8, ground := Go.Ground.chain }, { on := 0, ground := Go.Ground.phase }, { on := 1, ground := Go.Ground.phase }, { on := 2, ground := Go.Ground.phase }, { on := 3, ground := Go.Ground.phase }, { on := 4, ground := Go.Ground.phase }, { on := 5, ground := Go.Ground.phase }, { on := 6, ground := Go.Ground.phase }, { on := 7, ground := Go.Ground.phase }, { on := 8, ground := Go.Ground.phase }], guard := none }) (v := ?vc9) rfl (by kernel_rfl) (by kernel_rfl) (by kernel_rfl) (fun _ _ _ h => h) (Or.inl ⟨by rfl, ?yc9⟩) (by assumption) ?rc9
          case yc9 => (intro wq hSw; (try dsimp only at hSw); go_simp; try with_reducible rfl)
          simp only [Act.put, List.setIfInBounds_toArray, List.set_cons_zero, List.set_cons_succ]
          refine wpAnyH_done (by kernel_rfl) ?_ _
          obtain ⟨d0, d1⟩ := B3.out.cells
          go_wp2
          exact bodyPost_ret (v := .tuple #[.string ⟨(l.take i).toArray⟩, mkV nm cl, .string ⟨af.toArray⟩, .bool true]) (by simp [results, Tryz.results214, go_sem, *]) rfl ⟨by rw [HF.out], K3.out⟩
    · obtain rfl : i = l.length := by omega
      have HF := Lib.hid (show cmV l = .tuple #[.string ⟨l.toArray⟩, mkV [] false, .string ⟨#[]⟩, .bool false] by unfold cmV; rw [hF.out]; simp [fm])
      obtain ⟨c0, c1⟩ := B0.out.cells
      have z0 := B0.out.frz 0
      have z1 := B0.out.frz 1
      clear hF
      have M0 := Lib.hid (B0.out.set [] false)
      have K2 := Lib.hid ((K0.out.setCell (a := ⟨w.heap.size, 0, none⟩) (Nat.le_refl _) (.string ⟨#[]⟩)).setCell (a := ⟨w.heap.size, 1, none⟩) (Nat.le_refl _) (.bool false))
      go_wp2
      obtain ⟨d0, d1⟩ := M0.out.cells
      exact bodyPost_ret (v := .tuple #[.string ⟨l.toArray⟩, mkV [] false, .string ⟨#[]⟩, .bool false]) (by simp [results, Tryz.results214, go_sem, *]) rfl ⟨by rw [HF.out], K2.out⟩
end Go.Proofs.YtjlpkgipdkjfhaaGreatDoor.Pl
