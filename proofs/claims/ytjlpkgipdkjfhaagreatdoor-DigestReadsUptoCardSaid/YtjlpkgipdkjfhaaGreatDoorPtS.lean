import Derived.Test.YtjlpkgipdkjfhaaGreatDoorPtGw
import Derived.Test.YtjlpkgipdkjfhaaGreatDoorPtJn
set_option linter.unusedSimpArgs false
set_option linter.unusedVariables false
namespace Go.Proofs.YtjlpkgipdkjfhaaGreatDoor.Bk.Pt
open Go.ChangeShapes Go.WideShapes Go.ChangeAt Go.RowKit Go.Shelf
open Hd (SRd OwnS)
noncomputable def sE (b x : B) : Int := if (spl b x).isSome = true then 0 else 2
def Sp (b x : B) (ks ls : List B) : Prop := (spl b x = some (ks.zip ls) ∧ ks.length = ls.length) ∨ (spl b x = none ∧ ks = [] ∧ ls = [])
theorem Sp.one {b x : B} {ks ls ks' ls' : List B} (h : Sp b x ks ls) (h' : Sp b x ks' ls') : ks = ks' ∧ ls = ls' := by
  rcases h with ⟨h1, h2⟩ | ⟨h1, rfl, rfl⟩
  · rcases h' with ⟨h3, h4⟩ | ⟨h3, _⟩
    · rw [h1] at h3
      injection h3 with h3
      have e1 : (ks.zip ls).map Prod.fst = ks := List.map_fst_zip (by omega)
      have e2 : (ks.zip ls).map Prod.snd = ls := List.map_snd_zip (by omega)
      have e3 : (ks'.zip ls').map Prod.fst = ks' := List.map_fst_zip (by omega)
      have e4 : (ks'.zip ls').map Prod.snd = ls' := List.map_snd_zip (by omega)
      exact ⟨by rw [← e1, h3, e3], by rw [← e2, h3, e4]⟩
    · rw [h1] at h3; cases h3
  · rcases h' with ⟨h3, _⟩ | ⟨_, rfl, rfl⟩
    · rw [h1] at h3; cases h3
    · exact ⟨rfl, rfl⟩
def SpR (b x : B) (w : World) (e : Ending) (w' : World) : Prop := ∃ (kv lv : Value) (ks ls : List B), e = .returned (.tuple #[kv, lv, .int .i64 (sE b x)]) ∧ OwnS w.heap.size kv ks w' ∧ OwnLo w.heap.size lv ls w' ∧ Sp b x ks ls ∧ Kept w w'
theorem SpR.no {b x : B} {w w' : World} (h : spl b x = none) (k : Kept w w') : SpR b x w (.returned (.tuple #[.slice none 0 0, .slice none 0 0, .int .i64 2])) w' :=
  ⟨_, _, [], [], by unfold sE; rw [h]; rfl, OwnS.nil _ _, OwnLo.nil _ _, Or.inr ⟨h, rfl, rfl⟩, k⟩
theorem spl_none {b x : B} (h : gue b x = none) : spl b x = none := by unfold spl; rw [h]
theorem spl_some {b x : B} {ks ls : List B} (h : gue b x = some (ks.zip ls)) (hk : ks.length = ls.length) : spl b x = if (okJ ks ls = true ∧ x = b0) ∧ jB ks ls = b then some (ks.zip ls) else none := by
  have ho : okJ ks ls = okP (ks.zip ls) := by unfold okJ; rw [decide_eq_true hk, Bool.true_and]
  unfold spl
  rw [h]
  simp only
  by_cases h1 : okP (ks.zip ls) = true
  · have hj := (j_yes (ho.trans h1)).1
    rw [hj, ho, h1]
    simp [and_assoc]
  · rw [if_neg (fun h => h1 h.1), if_neg (fun h => h1 (ho ▸ h.1.1))]
set_option maxRecDepth 100000 in
set_option maxHeartbeats 4000000 in
theorem split_any (v : Value) (b x : B) (w : World) (hR : BRd v b w) (hE : Env w) (hl : b.length ≤ 1000000) (hx : x.length ≤ 900) (hcap : ∀ a n c, v = .slice a n c → c ≤ 9223372036854775807) :
    Calls Tryz.prog 22 #[v, sV x] w (SpR b x w) := by
  have HG := Lib.hid (guess_any v b x w hR hE hl hx hcap)
  have HR := Lib.hid hR
  have HE := Lib.hid hE
  obtain ⟨va, vc, rfl⟩ := hR.slice
  have HN := Lib.hid (fun h => spl_none (b := b) (x := x) h)
  have HS := Lib.hid (fun ks ls h hk => spl_some (b := b) (x := x) (ks := ks) (ls := ls) h hk)
  have HNO := Lib.hid (fun (w' : World) h k => SpR.no (b := b) (x := x) (w := w) (w' := w') h k)
  clear hR hE hcap
  go_enter Tryz.func22, Tryz.ntmps22
  go_wp2_with fail
  refine HG.out.mono ?_
  rintro e y1 ⟨kv, lv, ks, ls, rfl, hks, hls, hgu, hb1, hb2, k1⟩
  have K1 := Lib.hid k1
  cases hg : gue b x with
  | none =>
    have HZ := Lib.hid (HN.out hg)
    obtain ⟨ka, kc, rfl⟩ := own_slice hks
    obtain ⟨la, lc, rfl⟩ := hls.slice
    clear hg hks hls hgu hb1 hb2 k1 HG
    rw [show (none : Option (List (B × B))).isSome = false from rfl]
    go_wp2
    go_ret3
    exact HNO.out _ HZ.out K1.out
  | some l =>
    obtain ⟨rfl, hkl⟩ := hgu l hg
    have HQ := Lib.hid (HS.out ks ls hg hkl)
    have HKL := Lib.hid hkl
    rw [show (some (ks.zip ls) : Option (List (B × B))).isSome = true from rfl]
    have HJ := Lib.hid (join_any kv lv ks ls y1 hks.rd hls.rd (HE.out.kept k1) (fun k hk => by have := hb1 k hk; omega) (fun d hd => by have := hb2 d hd; omega))
    have SK := Lib.hid hks
    have LK := Lib.hid hls
    obtain ⟨ka, kc, rfl⟩ := own_slice hks
    obtain ⟨la, lc, rfl⟩ := hls.slice
    clear hg hks hls hgu hb1 hb2 k1 HG HS HN hkl
    go_wp2_with fail
    refine HJ.out.mono ?_
    rintro e y2 ⟨jv, rfl, hjo, k2⟩
    have K2 := Lib.hid (K1.out.trans k2)
    have S2 := Lib.hid (OwnS.kept SK.out k2)
    have L2 := Lib.hid (LK.out.kept k2)
    have HEq := Lib.hid (equal_any jv (.slice va b.length vc) (jB ks ls) b y2 hjo.rd (HR.out.kept K2.out))
    obtain ⟨ja, jc, hjv⟩ := own_slice hjo
    clear k2 HJ SK LK hjo
    cases hok : okJ ks ls with
    | false =>
      obtain ⟨e1, e2, e3⟩ := j_no (ks := ks) (ls := ls) (by rw [hok]; decide)
      have HZ := Lib.hid (HQ.out.trans (if_neg (fun h => by rw [hok] at h; cases h.1.1)))
      rw [e3]
      subst hjv
      generalize (jB ks ls).length = jn at *
      generalize jX ks ls = jx at *
      clear hok e1 e2 e3 HQ
      go_wp2
      go_ret3
      exact HNO.out _ HZ.out K2.out
    | true =>
      obtain ⟨e1, e2, e3⟩ := j_yes hok
      have HOK := Lib.hid hok
      rw [e3, e2]
      subst hjv
      generalize jB ks ls = J at *
      clear hok e1 e2 e3
      by_cases hxb : b0 = x
      · have HXB := Lib.hid hxb
        have hxq : (b0 == x) = true := by rw [beq_iff_eq]; exact hxb
        clear hxb
        generalize b0 = x0 at *
        go_wp2_with fail
        refine HEq.out.mono ?_
        rintro e y3 ⟨rfl, hy3⟩
        have hy3' := hy3.symm
        subst hy3'
        cases hj : (J == b) with
        | false =>
          have HZ := Lib.hid (HQ.out.trans (if_neg (fun h => by have := h.2; rw [beq_eq_false_iff_ne] at hj; exact hj this)))
          clear hj hy3 HQ
          go_wp2
          go_ret3
          exact HNO.out _ HZ.out K2.out
        | true =>
          have HZ := Lib.hid (HQ.out.trans (if_pos ⟨⟨HOK.out, HXB.out.symm⟩, by rwa [beq_iff_eq] at hj⟩))
          clear hj hy3 HQ
          go_wp2
          go_ret3
          exact ⟨_, _, ks, ls, by unfold sE; rw [HZ.out]; rfl, S2.out, L2.out, Or.inl ⟨HZ.out, HKL.out⟩, K2.out⟩
      · have hxq : (b0 == x) = false := beq_eq_false_iff_ne.2 hxb
        have HZ := Lib.hid (HQ.out.trans (if_neg (fun h => hxb h.1.2.symm)))
        clear hxb HQ
        generalize b0 = x0 at *
        go_wp2
        go_ret3
        exact HNO.out _ HZ.out K2.out
end Go.Proofs.YtjlpkgipdkjfhaaGreatDoor.Bk.Pt
