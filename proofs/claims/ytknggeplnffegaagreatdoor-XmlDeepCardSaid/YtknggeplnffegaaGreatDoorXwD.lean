/- The law XmlDeep, walked. -/
import Derived.Test.YtknggeplnffegaaGreatDoorXwB
import Derived.Test.YtknggeplnffegaaGreatDoorXmX
set_option linter.unusedVariables false
namespace Go.Proofs.YtknggeplnffegaaGreatDoor
open Go.ChangeShapes Go.WideShapes Go.ChangeAt Go.RowKit
open En Xm
def rp (x : B) (k : Nat) : B := (List.replicate k x).flatten
theorem rp_succ (x : B) (k : Nat) : rp x (k + 1) = rp x k ++ x := by
  unfold rp
  rw [List.replicate_succ', List.flatten_append]
  simp
theorem deep_rp (n : Nat) (e : Bool) : deepB n e = rp [60, 97, 62] (n - 1) ++ (if e = true then [60, 97, 47, 62] else [60, 97, 62, 60, 47, 97, 62]) ++ rp [60, 47, 97, 62] (n - 1) := rfl
theorem deep_len {n : Nat} (e : Bool) (s m : B) (hs : s.length ≤ 1000) (hm : m.length ≤ 1000) (h : deepB n e = s ++ (if e = true then [60, 97, 47, 62] else [60, 97, 62, 60, 47, 97, 62]) ++ m) : (deepB n e).length ≤ 100000 := by
  rw [h]
  cases e <;> simp <;> omega
set_option maxRecDepth 100000 in
set_option maxHeartbeats 4000000 in
theorem deep8_walk (n : Int) (emp : Bool) (w : World) (n1 : -9223372036854775808 ≤ n) (n2 : n ≤ 9223372036854775807) (hE : EX w.heap.size w) :
    Calls Tryz.prog 7 #[.int .i64 n, .bool emp] w fun e w' => e = .returned (.bool true) ∧ Kept w w' := by
  have HE := Lib.hid hE
  clear hE
  go_enter Tryz.func7, Tryz.ntmps7
  go_wp2_with fail
  refine (awake8_any w HE.out).mono ?_
  rintro e x1 ⟨rfl, k1⟩
  have K1 := Lib.hid k1
  clear k1
  by_cases s1 : n < 1
  · go_wp2
    go_ret
    exact ⟨rfl, K1.out⟩
  by_cases s2 : 60 < n
  · go_wp2
    go_ret
    exact ⟨rfl, K1.out⟩
  obtain ⟨N, rfl⟩ : ∃ A : Nat, n = A := ⟨n.toNat, by omega⟩
  have hN1 : 1 ≤ N := by omega
  have hN2 : N ≤ 60 := by omega
  go_wp2_with fail
  go_loopw [6, 7, 8] (fun vs vm vi wr => ∃ (j : Nat) (s m : B), 1 ≤ j ∧ j ≤ N ∧ vs = .string ⟨s.toArray⟩ ∧ vm = .string ⟨m.toArray⟩ ∧ vi = .int .i64 j ∧ s.length ≤ 3 * j ∧ m.length ≤ 4 * j ∧ Hid (s = rp [60, 97, 62] (j - 1)) ∧ Hid (m = rp [60, 47, 97, 62] (j - 1)) ∧ Hid (Kept w wr)) (fun _ _ vi _ => N - (intOf vi).toNat)
  case atStart => exact ⟨1, [], [], Nat.le_refl _, hN1, rfl, rfl, rfl, by simp, by simp, Lib.hid rfl, Lib.hid rfl, K1⟩
  case round =>
    obtain ⟨j, s, m, hj1, hj2, rfl, rfl, rfl, hsl, hml, HS, HM, hK⟩ := hrel
    by_cases hlt : j < N
    · have hltI : (j : Int) < N := by omega
      have hs1 : (⟨s.toArray⟩ ++ ⟨#[60, 97, 62]⟩ : ByteArray) = ⟨(s ++ [60, 97, 62]).toArray⟩ := str_app s [60, 97, 62]
      have hs2 : (⟨m.toArray⟩ ++ ⟨#[60, 47, 97, 62]⟩ : ByteArray) = ⟨(m ++ [60, 47, 97, 62]).toArray⟩ := str_app m [60, 47, 97, 62]
      have HS2 := Lib.hid (show s ++ [60, 97, 62] = rp [60, 97, 62] (j + 1 - 1) by rw [HS.out, show j + 1 - 1 = (j - 1) + 1 by omega, rp_succ])
      have HM2 := Lib.hid (show m ++ [60, 47, 97, 62] = rp [60, 47, 97, 62] (j + 1 - 1) by rw [HM.out, show j + 1 - 1 = (j - 1) + 1 by omega, rp_succ])
      have l1 : (s ++ [60, 97, 62]).length ≤ 3 * (j + 1) := by simp; omega
      have l2 : (m ++ [60, 47, 97, 62]).length ≤ 4 * (j + 1) := by simp; omega
      clear HS HM
      generalize hgs : s ++ [60, 97, 62] = s' at *
      generalize hgm : m ++ [60, 47, 97, 62] = m' at *
      clear hgs hgm
      go_wp2
      go_roundw
      case rel => exact ⟨j + 1, s', m', by omega, by omega, rfl, rfl, by go_num, l1, l2, HS2, HM2, hK⟩
      case measure => simp [intOf]; omega
    · have hltI : ¬ (j : Int) < N := by omega
      obtain rfl : j = N := by omega
      have HD := Lib.hid (show deepB j emp = s ++ (if emp = true then [60, 97, 47, 62] else [60, 97, 62, 60, 47, 97, 62]) ++ m by rw [deep_rp, ← HS.out, ← HM.out])
      have HL := Lib.hid (deep_len emp s m (by omega) (by omega) HD.out)
      have HF := deep_all ⟨j - 1, by omega⟩ emp
      rw [show (⟨j - 1, by omega⟩ : Fin 60).val + 1 = j from by show j - 1 + 1 = j; omega] at HF
      have HF := Lib.hid HF
      clear HS HM
      cases emp with
      | true =>
        have hs1 : (⟨s.toArray⟩ ++ ⟨#[60, 97, 47, 62]⟩ : ByteArray) = ⟨(s ++ [60, 97, 47, 62]).toArray⟩ := str_app s [60, 97, 47, 62]
        have hs2 : (⟨(s ++ [60, 97, 47, 62]).toArray⟩ ++ ⟨m.toArray⟩ : ByteArray) = ⟨(deepB j true).toArray⟩ := by rw [str_app, HD.out]; rfl
        have l1 : (s ++ [60, 97, 47, 62]).length ≤ 3 * j + 4 := by simp; omega
        generalize s ++ [60, 97, 47, 62] = s' at *
        obtain ⟨cc, y1, hcv, ky, hy⟩ := to_bytes (deepB j true) wr
        generalize hDB : deepB j true = db at *
        have K2 := Lib.hid (hK.out.trans ky)
        have BY := Lib.hid hy
        clear hy ky hK
        generalize wr.heap.size = b at *
        go_wp2_with fail
        clear hcv
        refine (ptokens_any (some ⟨b, 0, none⟩) db.length cc db y1 ((HE.out.kept K2.out).mono K2.out.size) rfl (fun _ => BY.out.conv)).mono ?_
        rintro e x2 ⟨k2, v2, rfl, hT⟩
        obtain ⟨a2, c2, hv2⟩ := hT.rd.slice
        subst hv2
        have K3 := Lib.hid (K2.out.trans k2)
        clear k2 hT BY K2
        by_cases h20 : 20 < j
        · have hF := HF.out
          rw [if_pos h20] at hF
          rw [hF]
          have h20I : 20 < (j : Int) := by omega
          clear HF hF
          go_wp2
          go_ret
          exact ⟨rfl, K3.out⟩
        · have hF := HF.out
          rw [if_neg h20] at hF
          have h20I : ¬ 20 < (j : Int) := by omega
          rw [hF.1, hF.2]
          have hm : ((2 * j : Nat) : Int) = 2 * (j : Int) := by omega
          clear HF hF
          go_wp2
          go_ret
          exact ⟨rfl, K3.out⟩
      | false =>
        have hs1 : (⟨s.toArray⟩ ++ ⟨#[60, 97, 62, 60, 47, 97, 62]⟩ : ByteArray) = ⟨(s ++ [60, 97, 62, 60, 47, 97, 62]).toArray⟩ := str_app s [60, 97, 62, 60, 47, 97, 62]
        have hs2 : (⟨(s ++ [60, 97, 62, 60, 47, 97, 62]).toArray⟩ ++ ⟨m.toArray⟩ : ByteArray) = ⟨(deepB j false).toArray⟩ := by rw [str_app, HD.out]; rfl
        have l1 : (s ++ [60, 97, 62, 60, 47, 97, 62]).length ≤ 3 * j + 7 := by simp; omega
        generalize s ++ [60, 97, 62, 60, 47, 97, 62] = s' at *
        obtain ⟨cc, y1, hcv, ky, hy⟩ := to_bytes (deepB j false) wr
        generalize hDB : deepB j false = db at *
        have K2 := Lib.hid (hK.out.trans ky)
        have BY := Lib.hid hy
        clear hy ky hK
        generalize wr.heap.size = b at *
        go_wp2_with fail
        clear hcv
        refine (ptokens_any (some ⟨b, 0, none⟩) db.length cc db y1 ((HE.out.kept K2.out).mono K2.out.size) rfl (fun _ => BY.out.conv)).mono ?_
        rintro e x2 ⟨k2, v2, rfl, hT⟩
        obtain ⟨a2, c2, hv2⟩ := hT.rd.slice
        subst hv2
        have K3 := Lib.hid (K2.out.trans k2)
        clear k2 hT BY K2
        by_cases h20 : 20 < j
        · have hF := HF.out
          rw [if_pos h20] at hF
          rw [hF]
          have h20I : 20 < (j : Int) := by omega
          clear HF hF
          go_wp2
          go_ret
          exact ⟨rfl, K3.out⟩
        · have hF := HF.out
          rw [if_neg h20] at hF
          have h20I : ¬ 20 < (j : Int) := by omega
          rw [hF.1, hF.2]
          have hm : ((2 * j : Nat) : Int) = 2 * (j : Int) := by omega
          clear HF hF
          go_wp2
          go_ret
          exact ⟨rfl, K3.out⟩
end Go.Proofs.YtknggeplnffegaaGreatDoor
