/- The law IdentParts, walked. -/
import Derived.Test.YtpkkpjonlogliaaDoorIdL
set_option linter.unusedSimpArgs false
set_option linter.unusedVariables false
namespace Go.Proofs.YtpkkpjonlogliaaDoor
open Go.ChangeShapes Go.WideShapes Go.ChangeAt Go.RowKit
open En Idn
def AllB (p : UInt8 → Bool) (l : List UInt8) (i : Nat) : Prop := ∀ c ∈ l.take i, p c = true
theorem AllB.one {p : UInt8 → Bool} {l : List UInt8} {i : Nat} {c : UInt8} (h : AllB p l i) (hc : l[i]? = some c) (hp : p c = true) : AllB p l (i + 1) := by
  intro d hd
  rw [List.take_add_one, hc, List.mem_append] at hd
  rcases hd with hd | hd
  · exact h d hd
  · simp at hd; subst hd; exact hp
theorem AllB.all {p : UInt8 → Bool} {l : List UInt8} (h : AllB p l l.length) : ∀ c ∈ l, p c = true := by
  unfold AllB at h
  rw [List.take_length] at h
  exact h
def restB (c : UInt8) : Bool := decide (32 < c.toNat ∧ c ≠ 35)
def moreB (c : UInt8) : Bool := decide (32 < c.toNat)
theorem cat4 (a b c d : B) : (⟨a.toArray⟩ ++ ⟨b.toArray⟩ ++ ⟨c.toArray⟩ ++ ⟨d.toArray⟩ : ByteArray) = ⟨(a ++ (b ++ (c ++ d))).toArray⟩ := by
  apply ByteArray.ext; simp [ByteArray.data_append]
theorem cat7 (a b c d e f g : B) : (⟨a.toArray⟩ ++ ⟨b.toArray⟩ ++ ⟨c.toArray⟩ ++ ⟨d.toArray⟩ ++ ⟨e.toArray⟩ ++ ⟨f.toArray⟩ ++ ⟨g.toArray⟩ : ByteArray) = ⟨(a ++ (b ++ (c ++ (d ++ (e ++ (f ++ g)))))).toArray⟩ := by
  apply ByteArray.ext; simp [ByteArray.data_append]
theorem parts_a {s p host rest : B} (hsp : (s = sch1 ∧ p = port1) ∨ (s = sch2 ∧ p = port2)) (hh : ∀ c ∈ host, hostB c = true) (hr : ∀ c ∈ rest, restB c = true) :
    norm (s ++ (host ++ ([47] ++ rest))) = s ++ (lo host ++ ([47] ++ rest)) := by
  have := norm_parts (tail := []) (q := []) hsp hh (fun c hc => by have := hr c hc; unfold restB at this; simpa using this) (fun c hc => by simp at hc) (Or.inl rfl) (Or.inl rfl)
  simpa using this
theorem parts_b {s p host rest more : B} (hsp : (s = sch1 ∧ p = port1) ∨ (s = sch2 ∧ p = port2)) (hh : ∀ c ∈ host, hostB c = true) (hr : ∀ c ∈ rest, restB c = true) (hm : ∀ c ∈ more, moreB c = true) :
    norm (s ++ (host ++ (p ++ ([47] ++ (rest ++ ([35] ++ more)))))) = s ++ (lo host ++ ([47] ++ rest)) := by
  have := norm_parts (tail := 35 :: more) (q := p) hsp hh (fun c hc => by have := hr c hc; unfold restB at this; simpa using this) (fun c hc => by
    rcases List.mem_cons.1 hc with h | h
    · rw [h]; decide
    · have := hm c h; unfold moreB at this; simpa using this) (Or.inr rfl) (Or.inr ⟨more, rfl⟩)
  simpa using this
set_option maxRecDepth 100000 in
set_option maxHeartbeats 16000000 in
theorem parts10_walk (host rest more : B) (safe : Bool) (w : World) (hz1 : host.length ≤ maxLen) (hz2 : rest.length ≤ maxLen) (hz3 : more.length ≤ maxLen) (hE : Env w) :
    Calls Tryd.prog 6 #[.string ⟨host.toArray⟩, .string ⟨rest.toArray⟩, .string ⟨more.toArray⟩, .bool safe] w fun e w' => e = .returned (.bool true) ∧ Kept w w' := by
  have HE := Lib.hid hE
  unfold maxLen at hz1 hz2 hz3
  clear hE
  go_enter Tryd.func6, Tryd.ntmps6
  go_wp2_with fail
  refine (iawake_any w HE.out).mono ?_
  rintro e x1 ⟨rfl, k1⟩
  have K1 := Lib.hid k1
  clear k1
  by_cases g1 : (100 : Int) < host.length
  · go_wp2
    go_ret
    exact ⟨rfl, K1.out⟩
  by_cases g2 : (100 : Int) < rest.length
  · go_wp2
    go_ret
    exact ⟨rfl, K1.out⟩
  by_cases g3 : (100 : Int) < more.length
  · go_wp2
    go_ret
    exact ⟨rfl, K1.out⟩
  go_upto_block 0 with (fail)
  go_cut [] from 38 (fun wx => wx = x1 ∧ Hid (∀ c ∈ host, hostB c = true))
  case first =>
    go_wp2_with fail
    go_loopw [10] (fun vi wr => ∃ i : Nat, vi = .int .i64 i ∧ i ≤ host.length ∧ wr = x1 ∧ Hid (AllB hostB host i)) (fun vi _ => host.length - (intOf vi).toNat)
    case atStart => exact ⟨0, rfl, Nat.zero_le _, rfl, Lib.hid (fun c hc => by simp at hc)⟩
    case round =>
      obtain ⟨i, rfl, hi, rfl, hA⟩ := hrel
      by_cases hlt : i < host.length
      · have hltI : (i : Int) < host.length := by omega
        obtain ⟨c, hc⟩ : ∃ c, host[i]? = some c := ⟨_, List.getElem?_eq_getElem hlt⟩
        have hat := byte_at host i c hc
        have hcl := c.toNat_lt
        rcases (show c.toNat < 46 ∨ c.toNat = 46 ∨ (46 < c.toNat ∧ c.toNat < 65) ∨ (65 ≤ c.toNat ∧ c.toNat ≤ 90) ∨ (90 < c.toNat ∧ c.toNat < 97) ∨ (97 ≤ c.toNat ∧ c.toNat ≤ 122) ∨ 122 < c.toNat by omega) with h | h | h | h | h | h | h
        · have d97 : decide ((97 : Int) ≤ (c.toNat : Int)) = false := by simp; omega
          have d122 : decide ((c.toNat : Int) ≤ 122) = true := by simp; omega
          have d65 : decide ((65 : Int) ≤ (c.toNat : Int)) = false := by simp; omega
          have d90 : decide ((c.toNat : Int) ≤ 90) = true := by simp; omega
          have d46 : ((c.toNat : Int) == 46) = false := by simp; omega
          clear hA hc h
          go_wp2
          go_ret
          exact ⟨rfl, K1.out⟩
        · have d97 : decide ((97 : Int) ≤ (c.toNat : Int)) = false := by simp; omega
          have d122 : decide ((c.toNat : Int) ≤ 122) = true := by simp; omega
          have d65 : decide ((65 : Int) ≤ (c.toNat : Int)) = false := by simp; omega
          have d90 : decide ((c.toNat : Int) ≤ 90) = true := by simp; omega
          have d46 : ((c.toNat : Int) == 46) = true := by simp; omega
          have HN := Lib.hid (hA.out.one hc (show hostB c = true from decide_eq_true (by omega)))
          clear hA hc h
          go_wp2
          go_roundw
          case rel => exact ⟨i + 1, by go_num, hlt, trivial, HN⟩
          case measure => simp [intOf]; omega
        · have d97 : decide ((97 : Int) ≤ (c.toNat : Int)) = false := by simp; omega
          have d122 : decide ((c.toNat : Int) ≤ 122) = true := by simp; omega
          have d65 : decide ((65 : Int) ≤ (c.toNat : Int)) = false := by simp; omega
          have d90 : decide ((c.toNat : Int) ≤ 90) = true := by simp; omega
          have d46 : ((c.toNat : Int) == 46) = false := by simp; omega
          clear hA hc h
          go_wp2
          go_ret
          exact ⟨rfl, K1.out⟩
        · have d97 : decide ((97 : Int) ≤ (c.toNat : Int)) = false := by simp; omega
          have d122 : decide ((c.toNat : Int) ≤ 122) = true := by simp; omega
          have d65 : decide ((65 : Int) ≤ (c.toNat : Int)) = true := by simp; omega
          have d90 : decide ((c.toNat : Int) ≤ 90) = true := by simp; omega
          have d46 : ((c.toNat : Int) == 46) = false := by simp; omega
          have HN := Lib.hid (hA.out.one hc (show hostB c = true from decide_eq_true (by omega)))
          clear hA hc h
          go_wp2
          go_roundw
          case rel => exact ⟨i + 1, by go_num, hlt, trivial, HN⟩
          case measure => simp [intOf]; omega
        · have d97 : decide ((97 : Int) ≤ (c.toNat : Int)) = false := by simp; omega
          have d122 : decide ((c.toNat : Int) ≤ 122) = true := by simp; omega
          have d65 : decide ((65 : Int) ≤ (c.toNat : Int)) = true := by simp; omega
          have d90 : decide ((c.toNat : Int) ≤ 90) = false := by simp; omega
          have d46 : ((c.toNat : Int) == 46) = false := by simp; omega
          clear hA hc h
          go_wp2
          go_ret
          exact ⟨rfl, K1.out⟩
        · have d97 : decide ((97 : Int) ≤ (c.toNat : Int)) = true := by simp; omega
          have d122 : decide ((c.toNat : Int) ≤ 122) = true := by simp; omega
          have d65 : decide ((65 : Int) ≤ (c.toNat : Int)) = true := by simp; omega
          have d90 : decide ((c.toNat : Int) ≤ 90) = false := by simp; omega
          have d46 : ((c.toNat : Int) == 46) = false := by simp; omega
          have HN := Lib.hid (hA.out.one hc (show hostB c = true from decide_eq_true (by omega)))
          clear hA hc h
          go_wp2
          go_roundw
          case rel => exact ⟨i + 1, by go_num, hlt, trivial, HN⟩
          case measure => simp [intOf]; omega
        · have d97 : decide ((97 : Int) ≤ (c.toNat : Int)) = true := by simp; omega
          have d122 : decide ((c.toNat : Int) ≤ 122) = false := by simp; omega
          have d65 : decide ((65 : Int) ≤ (c.toNat : Int)) = true := by simp; omega
          have d90 : decide ((c.toNat : Int) ≤ 90) = false := by simp; omega
          have d46 : ((c.toNat : Int) == 46) = false := by simp; omega
          clear hA hc h
          go_wp2
          go_ret
          exact ⟨rfl, K1.out⟩
      · have hltI : ¬ (i : Int) < host.length := by omega
        have HH := Lib.hid (show ∀ c ∈ host, hostB c = true from by have h2 := hA.out; rw [show i = host.length by omega] at h2; exact h2.all)
        go_wp2
        go_meet
        case rel => exact ⟨rfl, HH⟩
  case rest =>
  obtain ⟨hwc, HH⟩ := hcut
  have hwd := hwc.symm
  clear hwc
  subst hwd
  go_upto_block 2 with (fail)
  go_cut [] from 66 (fun wx => wx = x1 ∧ Hid (∀ c ∈ rest, restB c = true))
  case first =>
    go_wp2_with fail
    go_loopw [12] (fun vi wr => ∃ i : Nat, vi = .int .i64 i ∧ i ≤ rest.length ∧ wr = x1 ∧ Hid (AllB restB rest i)) (fun vi _ => rest.length - (intOf vi).toNat)
    case atStart => exact ⟨0, rfl, Nat.zero_le _, rfl, Lib.hid (fun c hc => by simp at hc)⟩
    case round =>
      obtain ⟨i, rfl, hi, rfl, hA⟩ := hrel
      by_cases hlt : i < rest.length
      · have hltI : (i : Int) < rest.length := by omega
        obtain ⟨c, hc⟩ : ∃ c, rest[i]? = some c := ⟨_, List.getElem?_eq_getElem hlt⟩
        have hat := byte_at rest i c hc
        by_cases h1 : c.toNat ≤ 32
        · have d32 : decide ((c.toNat : Int) ≤ 32) = true := by simp; omega
          clear hA hc h1
          go_wp2
          go_ret
          exact ⟨rfl, K1.out⟩
        have d32 : decide ((c.toNat : Int) ≤ 32) = false := by simp; omega
        by_cases h2 : c.toNat = 35
        · have d35 : ((c.toNat : Int) == 35) = true := by simp; omega
          clear hA hc h1 h2
          go_wp2
          go_ret
          exact ⟨rfl, K1.out⟩
        have d35 : ((c.toNat : Int) == 35) = false := by simp; omega
        have HN := Lib.hid (hA.out.one hc (show restB c = true from decide_eq_true ⟨by omega, fun q => h2 (by rw [q]; rfl)⟩))
        clear hA hc h1 h2
        go_wp2
        go_roundw
        case rel => exact ⟨i + 1, by go_num, hlt, trivial, HN⟩
        case measure => simp [intOf]; omega
      · have hltI : ¬ (i : Int) < rest.length := by omega
        have HR := Lib.hid (show ∀ c ∈ rest, restB c = true from by have h2 := hA.out; rw [show i = rest.length by omega] at h2; exact h2.all)
        go_wp2
        go_meet
        case rel => exact ⟨rfl, HR⟩
  case rest =>
  obtain ⟨hwc, HR⟩ := hcut
  have hwd := hwc.symm
  clear hwc
  subst hwd
  go_upto_block 4 with (fail)
  go_cut [] from 82 (fun wx => wx = x1 ∧ Hid (∀ c ∈ more, moreB c = true))
  case first =>
    go_wp2_with fail
    go_loopw [13] (fun vi wr => ∃ i : Nat, vi = .int .i64 i ∧ i ≤ more.length ∧ wr = x1 ∧ Hid (AllB moreB more i)) (fun vi _ => more.length - (intOf vi).toNat)
    case atStart => exact ⟨0, rfl, Nat.zero_le _, rfl, Lib.hid (fun c hc => by simp at hc)⟩
    case round =>
      obtain ⟨i, rfl, hi, rfl, hA⟩ := hrel
      by_cases hlt : i < more.length
      · have hltI : (i : Int) < more.length := by omega
        obtain ⟨c, hc⟩ : ∃ c, more[i]? = some c := ⟨_, List.getElem?_eq_getElem hlt⟩
        have hat := byte_at more i c hc
        by_cases h1 : c.toNat ≤ 32
        · have d32 : decide ((c.toNat : Int) ≤ 32) = true := by simp; omega
          clear hA hc h1
          go_wp2
          go_ret
          exact ⟨rfl, K1.out⟩
        have d32 : decide ((c.toNat : Int) ≤ 32) = false := by simp; omega
        have HN := Lib.hid (hA.out.one hc (show moreB c = true from decide_eq_true (by omega)))
        clear hA hc h1
        go_wp2
        go_roundw
        case rel => exact ⟨i + 1, by go_num, hlt, trivial, HN⟩
        case measure => simp [intOf]; omega
      · have hltI : ¬ (i : Int) < more.length := by omega
        have HM := Lib.hid (show ∀ c ∈ more, moreB c = true from by have h2 := hA.out; rw [show i = more.length by omega] at h2; exact h2.all)
        go_wp2
        go_meet
        case rel => exact ⟨rfl, HM⟩
  case rest =>
  obtain ⟨hwc, HM⟩ := hcut
  have hwd := hwc.symm
  clear hwc
  subst hwd
  have HS := Lib.hid (fun w => rsmall_any host w (by omega))
  rw [show host.map Lib.lowerB = lo host from rfl] at HS
  have hll : (lo host).length = host.length := List.length_map _
  cases safe with
  | true =>
    have hsp : (sch2 = sch1 ∧ port2 = port1) ∨ (sch2 = sch2 ∧ port2 = port2) := Or.inr ⟨rfl, rfl⟩
    have HA := Lib.hid (fun x (k : Kept w x) => norm_any (sch2 ++ (host ++ ([47] ++ rest))) x (HE.out.kept k) (by simp only [List.length_append, List.length_singleton, show sch2.length = 8 from rfl]; omega))
    have HB := Lib.hid (fun x (k : Kept w x) => norm_any (sch2 ++ (host ++ (port2 ++ ([47] ++ (rest ++ ([35] ++ more)))))) x (HE.out.kept k) (by simp only [List.length_append, List.length_singleton, show sch2.length = 8 from rfl, show port2.length = 4 from rfl]; omega))
    rw [parts_a hsp HH.out HR.out] at HA
    rw [parts_b hsp HH.out HR.out HM.out] at HB
    have hc0 : (⟨#[104, 116, 116, 112, 115, 58, 47, 47]⟩ ++ ⟨(lo host).toArray⟩ ++ ⟨#[47]⟩ ++ ⟨rest.toArray⟩ : ByteArray) = ⟨(sch2 ++ (lo host ++ ([47] ++ rest))).toArray⟩ := cat4 sch2 (lo host) [47] rest
    have hc1 : (⟨#[104, 116, 116, 112, 115, 58, 47, 47]⟩ ++ ⟨host.toArray⟩ ++ ⟨#[47]⟩ ++ ⟨rest.toArray⟩ : ByteArray) = ⟨(sch2 ++ (host ++ ([47] ++ rest))).toArray⟩ := cat4 sch2 host [47] rest
    have hc2 : (⟨#[104, 116, 116, 112, 115, 58, 47, 47]⟩ ++ ⟨host.toArray⟩ ++ ⟨#[58, 52, 52, 51]⟩ ++ ⟨#[47]⟩ ++ ⟨rest.toArray⟩ ++ ⟨#[35]⟩ ++ ⟨more.toArray⟩ : ByteArray) = ⟨(sch2 ++ (host ++ (port2 ++ ([47] ++ (rest ++ ([35] ++ more)))))).toArray⟩ := cat7 sch2 host port2 [47] rest [35] more
    clear hsp
    generalize sch2 ++ (lo host ++ ([47] ++ rest)) = ta at *
    generalize sch2 ++ (host ++ ([47] ++ rest)) = tb at *
    generalize sch2 ++ (host ++ (port2 ++ ([47] ++ (rest ++ ([35] ++ more))))) = tc at *
    generalize lo host = lh at *
    go_wp2_with fail
    refine (HS.out _).mono ?_
    rintro e x2 ⟨rfl, k2⟩
    have K2 := Lib.hid (K1.out.trans k2)
    go_wp2_with fail
    refine (HA.out _ K2.out).mono ?_
    rintro e x3 ⟨rfl, k3⟩
    have K3 := Lib.hid (K2.out.trans k3)
    go_wp2_with fail
    refine (HB.out _ K3.out).mono ?_
    rintro e x4 ⟨rfl, k4⟩
    have K4 := Lib.hid (K3.out.trans k4)
    clear k2 k3 k4
    go_wp2
    go_ret
    exact ⟨by simp, K4.out⟩
  | false =>
    have hsp : (sch1 = sch1 ∧ port1 = port1) ∨ (sch1 = sch2 ∧ port1 = port2) := Or.inl ⟨rfl, rfl⟩
    have HA := Lib.hid (fun x (k : Kept w x) => norm_any (sch1 ++ (host ++ ([47] ++ rest))) x (HE.out.kept k) (by simp only [List.length_append, List.length_singleton, show sch1.length = 7 from rfl]; omega))
    have HB := Lib.hid (fun x (k : Kept w x) => norm_any (sch1 ++ (host ++ (port1 ++ ([47] ++ (rest ++ ([35] ++ more)))))) x (HE.out.kept k) (by simp only [List.length_append, List.length_singleton, show sch1.length = 7 from rfl, show port1.length = 3 from rfl]; omega))
    rw [parts_a hsp HH.out HR.out] at HA
    rw [parts_b hsp HH.out HR.out HM.out] at HB
    have hc0 : (⟨#[104, 116, 116, 112, 58, 47, 47]⟩ ++ ⟨(lo host).toArray⟩ ++ ⟨#[47]⟩ ++ ⟨rest.toArray⟩ : ByteArray) = ⟨(sch1 ++ (lo host ++ ([47] ++ rest))).toArray⟩ := cat4 sch1 (lo host) [47] rest
    have hc1 : (⟨#[104, 116, 116, 112, 58, 47, 47]⟩ ++ ⟨host.toArray⟩ ++ ⟨#[47]⟩ ++ ⟨rest.toArray⟩ : ByteArray) = ⟨(sch1 ++ (host ++ ([47] ++ rest))).toArray⟩ := cat4 sch1 host [47] rest
    have hc2 : (⟨#[104, 116, 116, 112, 58, 47, 47]⟩ ++ ⟨host.toArray⟩ ++ ⟨#[58, 56, 48]⟩ ++ ⟨#[47]⟩ ++ ⟨rest.toArray⟩ ++ ⟨#[35]⟩ ++ ⟨more.toArray⟩ : ByteArray) = ⟨(sch1 ++ (host ++ (port1 ++ ([47] ++ (rest ++ ([35] ++ more)))))).toArray⟩ := cat7 sch1 host port1 [47] rest [35] more
    clear hsp
    generalize sch1 ++ (lo host ++ ([47] ++ rest)) = ta at *
    generalize sch1 ++ (host ++ ([47] ++ rest)) = tb at *
    generalize sch1 ++ (host ++ (port1 ++ ([47] ++ (rest ++ ([35] ++ more))))) = tc at *
    generalize lo host = lh at *
    go_wp2_with fail
    refine (HS.out _).mono ?_
    rintro e x2 ⟨rfl, k2⟩
    have K2 := Lib.hid (K1.out.trans k2)
    go_wp2_with fail
    refine (HA.out _ K2.out).mono ?_
    rintro e x3 ⟨rfl, k3⟩
    have K3 := Lib.hid (K2.out.trans k3)
    go_wp2_with fail
    refine (HB.out _ K3.out).mono ?_
    rintro e x4 ⟨rfl, k4⟩
    have K4 := Lib.hid (K3.out.trans k4)
    clear k2 k3 k4
    go_wp2
    go_ret
    exact ⟨by simp, K4.out⟩
end Go.Proofs.YtpkkpjonlogliaaDoor
