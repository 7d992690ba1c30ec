/- The document's answer for package head: words, a header's lines, all lines; are lists the same. -/
import Derived.Test.YtdhhlcgmkkpldaaGreatDoorHdRa
import Derived.Test.YtdhhlcgmkkpldaaGreatDoorHdAl
import Derived.BigQuiet
set_option linter.unusedSimpArgs false
set_option linter.unusedVariables false
namespace Go.Proofs.YtdhhlcgmkkpldaaGreatDoor.Hd
open Go.ChangeShapes Go.WideShapes Go.ChangeAt Go.RowKit Go.Shelf
open Bx (raw)
/-! the document's Split -/
/-- what is left to cut, a piece begun -/
def cutF (c : UInt8) (cur : List UInt8) : List UInt8 → List (List UInt8)
  | [] => [cur]
  | b :: r => if b = c then cur :: cutF c [] r else cutF c (cur ++ [b]) r
theorem cutF_eq (c : UInt8) : ∀ (l cur : List UInt8), c ∉ cur → cutF c cur l = splt c (cur ++ l)
  | [], cur, h => by rw [cutF, List.append_nil, splt_none cur h]
  | b :: r, cur, h => by
    rw [cutF]
    by_cases hb : b = c
    · subst hb
      rw [if_pos rfl, splt_app cur r h, cutF_eq b r [] (by simp)]; rfl
    · rw [if_neg hb, cutF_eq c r (cur ++ [b]) (by simp; exact ⟨h, fun e => hb e.symm⟩)]
      simp
theorem cutF_splt (c : UInt8) (l : List UInt8) : cutF c [] l = splt c l := cutF_eq c l [] (by simp)
theorem cutF_step {c : UInt8} {cur l : List UInt8} {k : Nat} {b : UInt8} (h : l[k]? = some b) : cutF c cur (l.drop k) = if b = c then cur :: cutF c [] (l.drop (k + 1)) else cutF c (cur ++ [b]) (l.drop (k + 1)) := by
  have : l.drop k = b :: l.drop (k + 1) := by
    obtain ⟨hk, rfl⟩ := List.getElem?_eq_some_iff.1 h
    exact List.drop_eq_getElem_cons hk
  rw [this, cutF]
theorem stretch_snoc {l : List UInt8} {i k : Nat} {b : UInt8} (hi : i ≤ k) (h : l[k]? = some b) : (l.drop i).take (k + 1 - i) = (l.drop i).take (k - i) ++ [b] := by
  rw [show k + 1 - i = (k - i) + 1 by omega, List.take_add_one, List.getElem?_drop, show i + (k - i) = k by omega, h]; rfl
theorem stretch_end {c : UInt8} {l : List UInt8} {i k : Nat} (hk : k = l.length) : cutF c ((l.drop i).take (k - i)) (l.drop k) = [(l.drop i).take (k - i)] := by
  rw [show l.drop k = [] from List.drop_eq_nil_of_le (by omega), cutF]
set_option maxRecDepth 100000 in
set_option maxHeartbeats 4000000 in
theorem rsplit_any (c : UInt8) (l : B) (w : World) (hl : l.length ≤ 1000000) : Calls Tryz.prog 47 #[sV l, .int .u8 c.toNat] w fun e w' => ∃ v, e = .returned v ∧ OwnS w.heap.size v (splt c l) w' ∧ Kept w w' := by
  have hsz : (ByteArray.mk l.toArray).size = l.length := List.size_toArray
  go_enter Tryz.func47, Tryz.ntmps47
  go_wp2_with fail
  go_loopw [5, 6, 7] (fun a i j y => ∃ (k s : Nat) (done : List B), s ≤ k ∧ k ≤ l.length + 1 ∧ i = .int .i64 s ∧ j = .int .i64 k ∧ done.length ≤ k ∧ Hid (k ≤ l.length → splt c l = done ++ cutF c ((l.drop s).take (k - s)) (l.drop k)) ∧ Hid (k = l.length + 1 → splt c l = done) ∧ Hid (OwnS w.heap.size a done y) ∧ Hid (Kept w y)) (fun _ _ j _ => l.length + 1 - (intOf j).toNat)
  case atStart => exact ⟨0, 0, [], Nat.le_refl _, by omega, rfl, rfl, by simp, Lib.hid (fun _ => by simp [cutF_splt]), Lib.hid (fun e => by omega), Lib.hid (OwnS.nil _ _), Lib.hid (Kept.refl _)⟩
  case round =>
    obtain ⟨k, s, done, hsk, hk, rfl, rfl, hdl, hc, hce, hO, hK⟩ := hrel
    obtain ⟨va, vc, hvv⟩ := own_slice hO.out
    subst hvv
    by_cases hle : k ≤ l.length
    · have hcb := cut_both l s k hsk hle
      rw [List.drop_take] at hcb
      have hkp : (Kept.refl wr).alloc (.cells #[sV ((l.drop s).take (k - s))] 9) = (Kept.refl wr).alloc (.cells #[sV ((l.drop s).take (k - s))] 9) := rfl
      have hal := (Kept.refl wr).alloc (.cells #[sV ((l.drop s).take (k - s))] 9)
      have hc1 := (Kept.refl (wr.alloc (.cells #[sV ((l.drop s).take (k - s))] 9))).new 0 (v := sV ((l.drop s).take (k - s))) rfl
      have O1 := Lib.hid (OwnS.kept hO.out hal)
      have K1 := Lib.hid (hK.out.trans hal)
      have hB1 := K1.out.size
      clear hkp hal
      by_cases hend : k = l.length
      · have hkI : (k : Int) = l.length := by omega
        have HC := Lib.hid (show splt c l = done ++ [(l.drop s).take (k - s)] by rw [hc.out hle, stretch_end hend])
        clear hc hce
        generalize (l.drop s).take (k - s) = pc at *
        subst hend
        clear hkI
        go_wp2_with (at_builtin; refine wpList_pushS rfl _ _ rfl w.heap.size _ done pc wr.heap.size rfl O1.out rfl hc1 (by omega) hB1 ?_)
        intro v4 y hy hgy
        have K4 := Lib.hid (kept_row K1.out hgy (fun g hg => (World.ownsRow.lt O1.out g hg).1))
        have O4 := Lib.hid hy
        clear hy hgy O1 K1 hc1 hB1
        go_wp2_with fail
        go_roundw
        case rel => exact ⟨l.length + 1, l.length + 1, done ++ [pc], Nat.le_refl _, Nat.le_refl _, by go_num, by go_num, by simp; omega, Lib.hid (fun h => by omega), Lib.hid (fun _ => HC.out), O4, K4⟩
        case measure => simp [intOf]
      · have hlt : k < l.length := by omega
        obtain ⟨b, hb⟩ : ∃ b, l[k]? = some b := ⟨_, List.getElem?_eq_getElem hlt⟩
        have hat := byte_at l k b hb
        have hI : ¬ (k : Int) = (l.length : Int) := by omega
        have hIb : ((k : Int) == (l.length : Int)) = false := beq_eq_false_iff_ne.2 hI
        have hcc := hc.out hle
        rw [cutF_step hb] at hcc
        have HSN := Lib.hid (stretch_snoc hsk hb)
        by_cases hbc : b = c
        · rw [if_pos hbc] at hcc
          have HC := Lib.hid hcc
          have hbI : (b.toNat : Int) = (c.toNat : Int) := by rw [hbc]
          have HCz := Lib.hid (show (l.drop (k + 1)).take (k + 1 - (k + 1)) = [] by simp)
          clear hc hce hcc hb hbc hend HSN
          generalize (l.drop s).take (k - s) = pc at *
          go_wp2_with (at_builtin; refine wpList_pushS rfl _ _ rfl w.heap.size _ done pc wr.heap.size rfl O1.out rfl hc1 (by omega) hB1 ?_)
          intro v4 y hy hgy
          have K4 := Lib.hid (kept_row K1.out hgy (fun g hg => (World.ownsRow.lt O1.out g hg).1))
          have O4 := Lib.hid hy
          clear hy hgy O1 K1 hc1 hB1
          go_wp2_with fail
          go_roundw
          case rel => exact ⟨k + 1, k + 1, done ++ [pc], Nat.le_refl _, by omega, by go_num, by go_num, by simp; omega, Lib.hid (fun h => by rw [HC.out, HCz.out]; simp), Lib.hid (fun h => by omega), O4, K4⟩
          case measure => simp [intOf]; omega
        · rw [if_neg hbc, ← HSN.out] at hcc
          have HC := Lib.hid hcc
          have hbI : ¬ (b.toNat : Int) = (c.toNat : Int) := fun e => hbc (UInt8.toNat_inj.1 (by omega))
          have hbB : ((b.toNat : Int) == (c.toNat : Int)) = false := beq_eq_false_iff_ne.2 hbI
          clear hc hce hcc hb hbc hend O1 K1 hc1 hB1 hcb
          go_wp2
          go_roundw
          case rel => exact ⟨k + 1, s, done, by omega, by omega, by go_num, by go_num, by omega, Lib.hid (fun h => HC.out), Lib.hid (fun h => by omega), hO, hK⟩
          case measure => simp [intOf]; omega
    · have HC := Lib.hid (hce.out (by omega))
      have hI : ¬ (k : Int) ≤ l.length := by omega
      clear hc hce
      go_wp2
      go_ret
      rw [HC.out]
      exact ⟨_, rfl, hO.out, hK.out⟩
set_option maxRecDepth 100000 in
set_option maxHeartbeats 4000000 in
theorem rwords_any (s : B) (w : World) (hl : s.length ≤ 200000) : Calls Tryz.prog 32 #[sV s] w fun e w' => ∃ v, e = .returned v ∧ OwnS w.heap.size v (wds s) w' ∧ Kept w w' := by
  have HP := Lib.hid (rplain_any s w (by unfold maxLen; omega))
  have HW := Lib.hid (show wds s = if pln s = true then splt 32 s else cod s from rfl)
  have hsum := sumW_wds s
  have hcl := (sumW_len (wds s)).1
  have hcl2 : (wds s).length ≤ 4000000 := by omega
  clear hsum hcl
  generalize wds s = ws at *
  cases hp : pln s with
  | true =>
    rw [hp] at HP HW
    have HZ := Lib.hid (HW.out.trans (if_pos rfl))
    have HS := Lib.hid (fun w => rsplit_any 32 s w (by omega))
    rw [← HZ.out] at HS
    go_enter Tryz.func32, Tryz.ntmps32
    go_wp2_with fail
    refine HP.out.mono ?_
    rintro e x1 ⟨rfl, rfl⟩
    go_wp2_with fail
    refine (HS.out _).mono ?_
    rintro e x2 ⟨v, rfl, hv, k2⟩
    obtain ⟨va, vc, hvv⟩ := own_slice hv
    subst hvv
    have HV := Lib.hid hv
    clear hv
    go_wp2
    go_ret
    exact ⟨_, rfl, HV.out, k2⟩
  | false =>
    rw [hp] at HP HW
    have HZ := Lib.hid (HW.out.trans (if_neg (by decide)))
    clear HW hp
    rw [HZ.out] at hcl2 ⊢
    go_enter Tryz.func32, Tryz.ntmps32
    go_wp2_with fail
    refine HP.out.mono ?_
    rintro e x1 ⟨rfl, rfl⟩
    go_wp2_with fail
    go_loopw [0, 4, 5] (fun v0 v4 _ wr => ∃ (k : Nat) (r : B), v0 = sV r ∧ Hid (cod r = (cod s).drop k) ∧ k ≤ (cod s).length ∧ r.length ≤ s.length ∧ Hid (OwnS x1.heap.size v4 ((cod s).take k) wr) ∧ Hid (Kept x1 wr)) (fun v0 _ _ _ => match v0 with | .string x => x.size | _ => 0)
    case atStart => exact ⟨0, s, rfl, Lib.hid rfl, Nat.zero_le _, Nat.le_refl _, Lib.hid (OwnS.nil _ _), Lib.hid (Kept.refl _)⟩
    case round =>
      obtain ⟨k, r, rfl, hS, hk, hrl, hO, hK⟩ := hrel
      have hsz : (ByteArray.mk r.toArray).size = r.length := List.size_toArray
      obtain ⟨va, vc, hvv⟩ := own_slice hO.out
      by_cases he : r = []
      · have HE := Lib.hid (show (cod s).take k = cod s by
          have h := hS.out
          rw [he, cod_nil] at h
          have := List.drop_eq_nil_iff.1 h.symm
          exact List.take_of_length_le this)
        rw [HE.out] at hO hvv
        subst hvv
        have hr0 : ¬ (0 : Int) < r.length := by rw [he]; decide
        clear hS he
        go_wp2
        go_ret
        exact ⟨_, rfl, hO.out, hK.out⟩
      · have hr0 : (0 : Int) < r.length := by have := List.length_pos_iff.2 he; omega
        obtain ⟨h1, h2⟩ := cod_step hS.out he
        have hp1 := prt_pos he
        have hp3 := prt_le r
        have hp2 := prt_45 r
        have HPt := Lib.hid (rpart_any r wr (by unfold maxLen; omega))
        have hct := cut_to r (prt r) hp3
        have hcf := cut_from r (prt r) (prt r) rfl hp3
        have hrn : (r.drop (prt r)).length < r.length := by simp; omega
        obtain ⟨cp, w1, hcv, hk1, hR1⟩ := to_bytes (r.take (prt r)) wr
        have hpl : (r.take (prt r)).length ≤ 45 := by simp; omega
        have HRw := Lib.hid (rraw_any _ (r.take (prt r)) w1 hR1 (by omega))
        have hrl2 := Bx.raw_len (r.take (prt r))
        have hrl3 : (raw (r.take (prt r))).length ≤ 60 := by rw [hrl2]; omega
        rw [show code (r.take (prt r)) = (opn ++ raw (r.take (prt r))) ++ cls by unfold code; rw [List.append_assoc]] at h1
        have happ1 : (⟨#[61, 63, 117, 116, 102, 45, 56, 63, 66, 63]⟩ ++ ⟨(raw (r.take (prt r))).toArray⟩ : ByteArray) = ⟨(opn ++ raw (r.take (prt r))).toArray⟩ := app_mk opn _
        have happ2 : (⟨(opn ++ raw (r.take (prt r))).toArray⟩ ++ ⟨#[63, 61]⟩ : ByteArray) = ⟨((opn ++ raw (r.take (prt r))) ++ cls).toArray⟩ := app_mk _ cls
        have hl1 : (opn ++ raw (r.take (prt r))).length ≤ 70 := by rw [List.length_append]; have : opn.length = 10 := rfl; omega
        have HT := Lib.hid h1
        have HN := Lib.hid h2
        have HTk := Lib.hid (show (cod s).take (k + 1) = (cod s).take k ++ [(opn ++ raw (r.take (prt r))) ++ cls] by rw [List.take_add_one, h1]; rfl)
        have hdl : ((cod s).take k).length ≤ 4000000 := by simp; omega
        clear h1 h2 hS he hrl2 hR1
        generalize prt r = n at *
        generalize r.take n = p at *
        generalize (opn ++ raw p) ++ cls = cw at *
        generalize opn ++ raw p = c1 at *
        generalize raw p = rp at *
        generalize r.drop n = q at *
        generalize (cod s).take k = done at *
        subst hvv
        go_wp2_with fail
        refine HPt.out.mono ?_
        rintro e w2 ⟨rfl, rfl⟩
        go_wp2_with fail
        refine HRw.out.mono ?_
        rintro e w3 ⟨rfl, k3⟩
        have hal := (Kept.refl w3).alloc (.cells #[sV cw] 9)
        have hc1 := (Kept.refl (w3.alloc (.cells #[sV cw] 9))).new 0 (v := sV cw) rfl
        have K1 := Lib.hid (((hK.out.trans hk1).trans k3).trans hal)
        have O1 := Lib.hid (OwnS.kept (OwnS.kept (OwnS.kept hO.out hk1) k3) hal)
        have hB1 := K1.out.size
        clear hal hcv hk1 k3 HPt HRw hO hK
        go_wp2_with (at_builtin; refine wpList_pushS rfl _ _ rfl x1.heap.size _ done cw w3.heap.size rfl O1.out rfl hc1 (by omega) hB1 ?_)
        intro v4 y hy hgy
        have K4 := Lib.hid (kept_row K1.out hgy (fun g hg => (World.ownsRow.lt O1.out g hg).1))
        have O4 := Lib.hid (show OwnS x1.heap.size v4 ((cod s).take (k + 1)) y by rw [HTk.out]; exact hy)
        have hkl : k + 1 ≤ (cod s).length := (List.getElem?_eq_some_iff.1 HT.out).1
        clear hy hgy O1 K1 hc1 hB1
        go_wp2_with fail
        go_roundw
        case rel => exact ⟨k + 1, q, rfl, HN, hkl, by omega, O4, K4⟩
        case measure => show (ByteArray.mk q.toArray).size < (ByteArray.mk r.toArray).size; rw [str_lit, str_lit]; exact hrn
end Go.Proofs.YtdhhlcgmkkpldaaGreatDoor.Hd
