/- Package part: each kind with its body is handed on to the writer. -/
import Derived.Test.YtgpocnnolieijaaGreatDoorPtJ
set_option linter.unusedSimpArgs false
set_option linter.unusedVariables false
namespace Go.Proofs.YtgpocnnolieijaaGreatDoor.Pt
open Go.ChangeShapes Go.WideShapes Go.ChangeAt Go.RowKit Go.Shelf
open Hd (SRd)
theorem pcX_len {x k c : B} (hk : k.length ≤ 4000) (hx : x.length ≤ 1000) : (pcX x k c).length ≤ 300000 + c.length := by
  have := hds_len hk
  unfold pcX
  simp only [List.length_append, List.length_cons, List.length_nil]
  omega
theorem map_at {ls : List B} {i : Nat} {b : B} (h : ls[i]? = some b) : (ls.map (Qp.enc 0))[i]? = some (Qp.enc 0 b) := by
  rw [List.getElem?_map, h]; rfl
set_option maxRecDepth 100000 in
set_option maxHeartbeats 4000000 in
theorem pairs_any (w1 : World) (b : Nat) (kv lv mv : Value) (ks ls : List B) (n : Nat) (w : World) (hk : SRd kv ks w1) (hl : LRd lv (ls.map (Qp.enc 0)) w1) (hE : Env w1) (h : WrI w1 b mv [] b0 w) (hn : ks.length = n) (hn2 : ls.length = n) (hn8 : n ≤ 8) (hkb : ∀ k ∈ ks, k.length ≤ 4000) (hlb : ∀ c ∈ ls, c.length ≤ 2000000) :
    Calls Tryz.prog 22 #[kv, lv, .func (.func 23) #[.pointer (some ⟨b, 0, none⟩)] #[]] w fun e w' => e = .returned (.tuple #[]) ∧ (∃ mv', WrI w1 b mv' (pre ks ls n) b0 w') ∧ (pre ks ls n).length ≤ n * 20000000 := by
  obtain ⟨ka, kc, rfl⟩ := hk.slice
  obtain ⟨la, lc, rfl⟩ := hl.slice
  have HK := Lib.hid hk
  have HL := Lib.hid hl
  have HE := Lib.hid hE
  have H0 := Lib.hid h
  have HKB := Lib.hid hkb
  have HLB := Lib.hid hlb
  have HN := Lib.hid hn
  have HN2 := Lib.hid hn2
  have hml : (ls.map (Qp.enc 0)).length = n := by rw [List.length_map]; exact hn2
  rw [hn, hml]
  rw [hn] at HK
  rw [hml] at HL
  clear hk hl hE h hkb hlb hn hn2 hml
  go_enter Tryz.func22, Tryz.ntmps22
  go_wp2_with fail
  go_loopw [6, 7, 10] (fun _ _ vi wr => ∃ (i : Nat) (mv' : Value), i ≤ n ∧ vi = .int .i64 i ∧ Hid (WrI w1 b mv' (pre ks ls i) b0 wr) ∧ Hid ((pre ks ls i).length ≤ i * 20000000)) (fun _ _ vi _ => n - (intOf vi).toNat)
  case atStart => exact ⟨0, mv, Nat.zero_le _, rfl, H0, Lib.hid (by simp [pre])⟩
  case round =>
    obtain ⟨i, mv', hi, rfl, hW, hL⟩ := hrel
    by_cases hlt : i < n
    · have hltI : (i : Int) < n := by omega
      obtain ⟨k, hk⟩ : ∃ k, ks[i]? = some k := ⟨_, List.getElem?_eq_getElem (by have := HN.out; omega)⟩
      obtain ⟨d, hd⟩ : ∃ d, ls[i]? = some d := ⟨_, List.getElem?_eq_getElem (by have := HN2.out; omega)⟩
      obtain ⟨g, o, c, hv, hc, c0⟩ := HK.out.at hk
      obtain ⟨g2, o2, c2, x, hv2, hc2, d0, hx⟩ := HL.out.at (map_at hd)
      rw [HN.out] at hv hc
      rw [List.length_map, HN2.out] at hv2 hc2
      cases hv
      cases hv2
      have c1 := hW.out.1.yes c0
      have d1 := hW.out.1.yes d0
      have HX := Lib.hid hx
      have hkl := HKB.out k (List.mem_of_getElem? hk)
      have hdl := HLB.out d (List.mem_of_getElem? hd)
      have hel := Qp.enc_len d 0
      have HP := Lib.hid (pre_next hk hd)
      have hpl := pcX_len (x := b0) (k := k) (c := Qp.enc 0 d) hkl (by decide)
      obtain ⟨xa, xc, rfl⟩ := hx.slice
      have HC := Lib.hid (part_any w1 b mv' (.slice xa (Qp.enc 0 d).length xc) (pre ks ls i) b0 k (Qp.enc 0 d) wr hW.out HE.out HX.out hkl (by decide) (by omega) (by have := hL.out; have : i * 20000000 ≤ 8 * 20000000 := Nat.mul_le_mul_right _ (by omega); omega))
      have HL2 := Lib.hid (show (pre ks ls (i + 1)).length ≤ (i + 1) * 20000000 by rw [HP.out, List.length_append]; have := hL.out; omega)
      rw [← HP.out] at HC
      clear hk hd hx hpl hel hkl hdl c0 d0 HP
      generalize (Qp.enc 0 d).length = dn at *
      go_wp2_with fail
      refine HC.out.mono ?_
      rintro e y ⟨rfl, mv2, hw2⟩
      have HW2 := Lib.hid hw2
      clear hw2 HC hW hL
      go_wp2
      go_roundw
      case rel => exact ⟨i + 1, mv2, hlt, by go_num, HW2, HL2⟩
      case measure => simp [intOf]; omega
    · obtain rfl : i = n := by omega
      have hltI : ¬ (i : Int) < i := by omega
      go_wp2
      go_end0
      exact ⟨rfl, ⟨mv', hW.out⟩, hL.out⟩
end Go.Proofs.YtgpocnnolieijaaGreatDoor.Pt
