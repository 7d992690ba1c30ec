/- The document's own answers of layer xml: plain text. -/
import Derived.Test.YtknggeplnffegaaGreatDoorXmN
import Derived.Deep.RegionHeld3
set_option linter.unusedVariables false
namespace Go.Proofs.YtknggeplnffegaaGreatDoor
open Go.ChangeShapes Go.WideShapes Go.ChangeAt Go.RowKit
open En Xm
/-- a reader and its lists, behind what turns its block alone -/
theorem RS.of {B0 b : Nat} {s : B} {at0 : Nat} {o : List B} {n : Nat} {l : List Tk} {e : Int} {w : World} (h : RS B0 b s at0 o n l e w) : ∃ ov lv, Rd b s at0 ov n lv e w ∧ (∃ oa oc, ov = .slice oa o.length oc) ∧ ∀ (at1 n1 : Nat) (e1 : Int) (w' : World), Rd b s at1 ov n1 lv e1 w' → Ob b w w' → RS B0 b s at1 o n1 l e1 w' ∧ Below B0 w w' := by
  obtain ⟨hB, hB2, ov, lv, hR, hO, hT⟩ := h
  exact ⟨ov, lv, hR, own_slice hO, fun at1 n1 e1 w' h1 o1 => ⟨RS.ob hB hB2 hR hO hT o1 h1, o1.below hB hB2⟩⟩
/-- plain text -/
def PlP (B0 b : Nat) (s : B) (at0 : Nat) (o : List B) (n : Nat) (l : List Tk) (w : World) (r : Ending) (w' : World) : Prop :=
  r = .returned (.tuple #[]) ∧ Below B0 w w' ∧ match plainS ⟨s.drop at0, o, n, l⟩ with
  | .ok s' => RS B0 b s (s.length - s'.r.length) s'.o s'.n s'.l 0 w'
  | .er e => ∃ at1, at1 ≤ s.length ∧ RS B0 b s at1 o n l e w'
theorem plain_at {s : B} {at0 k : Nat} (ha : at0 ≤ k) (hk : k ≤ s.length) (h1 : ∀ c ∈ (s.take k).drop at0, c ≠ (60 : UInt8)) (h2 : k = s.length ∨ ∃ r, s.drop k = 60 :: r) :
    (s.drop at0).takeWhile (· != 60) = (s.take k).drop at0 ∧ (s.drop at0).dropWhile (· != 60) = s.drop k := by
  have hp : ∀ c ∈ (s.take k).drop at0, ((c : UInt8) != 60) = true := fun c hc => by rw [bne_iff_ne]; exact h1 c hc
  rw [sub_all ha hk, List.takeWhile_append_of_pos hp, List.dropWhile_append_of_pos hp]
  rcases h2 with rfl | ⟨r, hr⟩
  · simp
  · rw [hr, List.takeWhile_cons, if_neg (by decide), List.dropWhile_cons, if_neg (by decide)]
    simp
set_option maxRecDepth 100000 in
set_option maxHeartbeats 8000000 in
theorem rplain_any (B0 b : Nat) (s : B) (at0 : Nat) (o : List B) (n : Nat) (l : List Tk) (w : World) (h : RS B0 b s at0 o n l 0 w) (ha : at0 ≤ s.length) (hs : s.length ≤ 1000000) (hl : l.length ≤ 1000000) (hol : o.length ≤ 1000) :
    Calls Tryz.prog 36 #[pV b] w (PlP B0 b s at0 o n l w) := by
  obtain ⟨ov, lv, hR0, ⟨oa, oc, hov⟩, hback⟩ := h.of
  have HB := Lib.hid hback
  have HO0 := Lib.hid h
  obtain ⟨c0, c1, c2, c3, c4, c5⟩ := hR0.cs
  clear c2 c3 c4 c5 hback h
  go_enter Tryz.func36, Tryz.ntmps36
  go_wp2_with fail
  clear c0 c1
  go_loopw [3, 4] (fun vb _ wr => ∃ k : Nat, at0 ≤ k ∧ k ≤ s.length ∧ vb = .bool (((s.take k).drop at0).all spB) ∧ Hid (Rd b s k ov n lv 0 wr) ∧ Hid (Ob b w wr) ∧ Hid (∀ c ∈ (s.take k).drop at0, c ≠ (60 : UInt8))) (fun _ _ wr => s.length - (intOf ((wr.cell? ⟨b, 1, none⟩).getD undef)).toNat)
  case atStart =>
    have e0 : (s.take at0).drop at0 = [] := List.drop_eq_nil_of_le (by rw [List.length_take]; omega)
    exact ⟨at0, Nat.le_refl _, ha, by rw [e0]; rfl, Lib.hid hR0, Lib.hid (Ob.refl b w), Lib.hid (by rw [e0]; intro c hc; cases hc)⟩
  case round =>
    obtain ⟨k, hak, hks, rfl, hR, hO, hI⟩ := hrel
    clear hR0
    obtain ⟨c0, c1, c2, c3, c4, c5⟩ := hR.out.cs
    have hmes : s.length - (intOf ((wr.cell? ⟨b, 1, none⟩).getD undef)).toNat = s.length - k := by rw [c1]; simp [intOf]
    clear c2 c3 c4 c5
    by_cases hlt : k < s.length
    · have hd : decide ((k : Int) < s.length) = true := decide_eq_true (by omega)
      obtain ⟨a, haa⟩ : ∃ a, s[k]? = some a := ⟨_, List.getElem?_eq_getElem hlt⟩
      have hat := byte_at s k a haa
      have HS := Lib.hid (sub_snoc hak haa)
      have HD := Lib.hid (drop_at2 haa)
      clear haa
      by_cases h60 : (a.toNat : Int) = 60
      · have gb : ((a.toNat : Int) != 60) = false := by simp [h60]
        have HP := Lib.hid (plain_at hak hks hI.out (Or.inr ⟨_, by rw [HD.out, show a = 60 from u8_eq h60]⟩))
        clear h60
        go_upto_region 2 with (fail)
        go_quiet (fail)
        rename_i nq
        have R2 := Lib.hid (hR.out.kept ((Kept.refl wr).drewN nq))
        have O2 := Lib.hid (hO.out.drewN nq)
        generalize wr.drewN nq = W2 at *
        clear hR hO c0 c1
        have hcb := cut_both s at0 k hak hks
        have hcl : ((s.take k).drop at0).length ≤ 1000000 := by rw [List.length_drop, List.length_take]; omega
        have hdk : s.length - (s.drop k).length = k := by rw [List.length_drop]; omega
        generalize (s.take k).drop at0 = t at *
        go_upto_region 6 with (fail)
        have KD := Lib.hid ((Kept.refl W2).drew)
        obtain ⟨c0, c1, c2, c3, c4, c5⟩ := R2.out.cs
        clear c2 c3 c4 c5
        refine wp_region_held_drew (S := fun y => Kept W2 y ∧ y.cell? ⟨b, 0, none⟩ = some (sV s) ∧ y.cell? ⟨b, 1, none⟩ = some (iV k)) (by kernel_rfl) ⟨KD.out, c0, c1⟩ (fun hS0 => ?_)
        refine wpAnyH_take (i := 0) (oi := { dst := some 55, op := Go.Op.move (Go.Operand.tmp 0), type := 46, pos := "ref.go:126", after := #[], guard := none }) (v := ?va0) rfl (by kernel_rfl) (by kernel_rfl) (by kernel_rfl) (fun _ _ _ h => h) (Or.inl ⟨by rfl, ?ya0⟩) (by assumption) ?ra0
        case ya0 => (intro wq hSw; (try dsimp only at hSw); go_simp; try with_reducible rfl)
        simp only [Act.put, List.setIfInBounds_toArray, List.set_cons_zero, List.set_cons_succ]
        refine wpAnyH_take (i := 1) (oi := { dst := some 56, op := Go.Op.nilCheck (Go.Operand.tmp 55), type := 0, pos := "ref.go:126", after := #[{ on := 0, ground := Go.Ground.data }], guard := none }) (v := ?va1) rfl (by kernel_rfl) (by kernel_rfl) (by kernel_rfl) (fun _ _ _ h => h) (Or.inl ⟨by rfl, ?ya1⟩) (by assumption) ?ra1
        case ya1 => (intro wq hSw; (try dsimp only at hSw); go_simp; try with_reducible rfl)
        simp only [Act.put, List.setIfInBounds_toArray, List.set_cons_zero, List.set_cons_succ]
        refine wpAnyH_take (i := 2) (oi := { dst := some 57, op := Go.Op.fieldAddr 48 (Go.Operand.tmp 56) 0, type := 0, pos := "ref.go:126", after := #[{ on := 1, ground := Go.Ground.data }], guard := none }) (v := ?va2) rfl (by kernel_rfl) (by kernel_rfl) (by kernel_rfl) (fun _ _ _ h => h) (Or.inl ⟨by rfl, ?ya2⟩) (by assumption) ?ra2
        case ya2 => (intro wq hSw; (try dsimp only at hSw); go_simp; try with_reducible rfl)
        simp only [Act.put, List.setIfInBounds_toArray, List.set_cons_zero, List.set_cons_succ]
        refine wpAnyH_take (i := 3) (oi := { dst := some 58, op := Go.Op.load 9 (Go.Operand.tmp 57), type := 9, pos := "ref.go:126", after := #[{ on := 2, ground := Go.Ground.data }], guard := none }) (v := ?va3) rfl (by kernel_rfl) (by kernel_rfl) (by kernel_rfl) (fun _ _ _ h => h) (Or.inl ⟨by rfl, ?ya3⟩) (by assumption) ?ra3
        case ya3 => (intro wq hSw; (try dsimp only at hSw); go_simp; try with_reducible rfl)
        simp only [Act.put, List.setIfInBounds_toArray, List.set_cons_zero, List.set_cons_succ]
        refine wpAnyH_take (i := 4) (oi := { dst := some 59, op := Go.Op.move (Go.Operand.tmp 2), type := 3, pos := "ref.go:126", after := #[], guard := none }) (v := ?va4) rfl (by kernel_rfl) (by kernel_rfl) (by kernel_rfl) (fun _ _ _ h => h) (Or.inl ⟨by rfl, ?ya4⟩) (by assumption) ?ra4
        case ya4 => (intro wq hSw; (try dsimp only at hSw); go_simp; try with_reducible rfl)
        simp only [Act.put, List.setIfInBounds_toArray, List.set_cons_zero, List.set_cons_succ]
        refine wpAnyH_take (i := 5) (oi := { dst := some 60, op := Go.Op.move (Go.Operand.tmp 0), type := 46, pos := "ref.go:126", after := #[], guard := none }) (v := ?va5) rfl (by kernel_rfl) (by kernel_rfl) (by kernel_rfl) (fun _ _ _ h => h) (Or.inl ⟨by rfl, ?ya5⟩) (by assumption) ?ra5
        case ya5 => (intro wq hSw; (try dsimp only at hSw); go_simp; try with_reducible rfl)
        simp only [Act.put, List.setIfInBounds_toArray, List.set_cons_zero, List.set_cons_succ]
        refine wpAnyH_take (i := 6) (oi := { dst := some 61, op := Go.Op.nilCheck (Go.Operand.tmp 60), type := 0, pos := "ref.go:126", after := #[{ on := 5, ground := Go.Ground.data }], guard := none }) (v := ?va6) rfl (by kernel_rfl) (by kernel_rfl) (by kernel_rfl) (fun _ _ _ h => h) (Or.inl ⟨by rfl, ?ya6⟩) (by assumption) ?ra6
        case ya6 => (intro wq hSw; (try dsimp only at hSw); go_simp; try with_reducible rfl)
        simp only [Act.put, List.setIfInBounds_toArray, List.set_cons_zero, List.set_cons_succ]
        refine wpAnyH_take (i := 7) (oi := { dst := some 62, op := Go.Op.fieldAddr 48 (Go.Operand.tmp 61) 1, type := 0, pos := "ref.go:126", after := #[{ on := 6, ground := Go.Ground.data }], guard := none }) (v := ?va7) rfl (by kernel_rfl) (by kernel_rfl) (by kernel_rfl) (fun _ _ _ h => h) (Or.inl ⟨by rfl, ?ya7⟩) (by assumption) ?ra7
        case ya7 => (intro wq hSw; (try dsimp only at hSw); go_simp; try with_reducible rfl)
        simp only [Act.put, List.setIfInBounds_toArray, List.set_cons_zero, List.set_cons_succ]
        refine wpAnyH_take (i := 8) (oi := { dst := some 63, op := Go.Op.load 3 (Go.Operand.tmp 62), type := 3, pos := "ref.go:126", after := #[{ on := 7, ground := Go.Ground.data }], guard := none }) (v := ?va8) rfl (by kernel_rfl) (by kernel_rfl) (by kernel_rfl) (fun _ _ _ h => h) (Or.inl ⟨by rfl, ?ya8⟩) (by assumption) ?ra8
        case ya8 => (intro wq hSw; (try dsimp only at hSw); go_simp; try with_reducible rfl)
        simp only [Act.put, List.setIfInBounds_toArray, List.set_cons_zero, List.set_cons_succ]
        refine wpAnyH_take (i := 9) (oi := { dst := some 64, op := Go.Op.slice 9 (Go.Operand.tmp 58) (some (Go.Operand.tmp 59)) (some (Go.Operand.tmp 63)) none, type := 9, pos := "ref.go:126", after := #[{ on := 3, ground := Go.Ground.data }, { on := 4, ground := Go.Ground.data }, { on := 8, ground := Go.Ground.data }], guard := none }) (v := ?va9) rfl (by kernel_rfl) (by kernel_rfl) (by kernel_rfl) (fun _ _ _ h => h) (Or.inl ⟨by rfl, ?ya9⟩) (by assumption) ?ra9
        case ya9 => (intro wq hSw; (try dsimp only at hSw); go_simp; try with_reducible rfl)
        simp only [Act.put, List.setIfInBounds_toArray, List.set_cons_zero, List.set_cons_succ]
        refine wpAnyH_ready (rs := [10]) (by kernel_rfl) (by simp) (AllReadyH.cons (o := { dst := some 65, op := Go.Op.call { callee := Go.Callee.value (Go.Operand.func 55), args := #[Go.Operand.tmp 64], argTypes := #[9] }, type := 75, pos := "ref.go:126", after := #[{ on := 9, ground := Go.Ground.data }], guard := none }) rfl (fun K hK => ?_) AllReadyH.nil)
        go_simp
        go_at_call 55; refine (rdecode_any t _ hcl).mono ?_
        rintro r w9 ⟨rfl, k9⟩
        have R9 := Lib.hid (R2.out.kept (KD.out.trans k9))
        have O9 := Lib.hid (O2.out.kept (KD.out.trans k9))
        refine Shut.out hK _ _ ⟨KD.out.trans k9, R9.out.cs.1, R9.out.cs.2.1⟩ (fun hSb => ?_)
        clear hK K
        try simp only [Act.put, List.setIfInBounds_toArray, List.set_cons_zero, List.set_cons_succ]
        refine wpAnyH_take (i := 11) (oi := { dst := some 54, op := Go.Op.move (Go.Operand.tmp 65), type := 75, pos := "ref.go:126", after := #[{ on := 10, ground := Go.Ground.data }], guard := none }) (v := ?va11) rfl (by kernel_rfl) (by kernel_rfl) (by kernel_rfl) (fun _ _ _ h => h) (Or.inl ⟨by rfl, ?ya11⟩) (by assumption) ?ra11
        case ya11 => (intro wq hSw; (try dsimp only at hSw); go_simp; try with_reducible rfl)
        simp only [Act.put, List.setIfInBounds_toArray, List.set_cons_zero, List.set_cons_succ]
        refine wpAnyH_take (i := 12) (oi := { dst := some 66, op := Go.Op.extract (Go.Operand.tmp 54) 0, type := 9, pos := "ref.go:126", after := #[{ on := 11, ground := Go.Ground.data }], guard := none }) (v := ?va12) rfl (by kernel_rfl) (by kernel_rfl) (by kernel_rfl) (fun _ _ _ h => h) (Or.inl ⟨by rfl, ?ya12⟩) (by assumption) ?ra12
        case ya12 => (intro wq hSw; (try dsimp only at hSw); go_simp; try with_reducible rfl)
        simp only [Act.put, List.setIfInBounds_toArray, List.set_cons_zero, List.set_cons_succ]
        refine wpAnyH_take (i := 13) (oi := { dst := some 67, op := Go.Op.extract (Go.Operand.tmp 54) 1, type := 25, pos := "ref.go:126", after := #[{ on := 11, ground := Go.Ground.data }, { on := 14, ground := Go.Ground.gcOnly Go.Departure.lateStores }], guard := none }) (v := ?va13) rfl (by kernel_rfl) (by kernel_rfl) (by kernel_rfl) (fun _ _ _ h => h) (Or.inl ⟨by rfl, ?ya13⟩) (by assumption) ?ra13
        case ya13 => (intro wq hSw; (try dsimp only at hSw); go_simp; try with_reducible rfl)
        simp only [Act.put, List.setIfInBounds_toArray, List.set_cons_zero, List.set_cons_succ]
        refine wpAnyH_take (i := 14) (oi := { dst := some 5, op := Go.Op.assign (Go.Operand.tmp 66), type := 9, pos := "ref.go:126", after := #[{ on := 12, ground := Go.Ground.data }, { on := 10, ground := Go.Ground.chain }, { on := 0, ground := Go.Ground.phase }, { on := 1, ground := Go.Ground.phase }, { on := 2, ground := Go.Ground.phase }, { on := 3, ground := Go.Ground.phase }, { on := 4, ground := Go.Ground.phase }, { on := 5, ground := Go.Ground.phase }, { on := 6, ground := Go.Ground.phase }, { on := 7, ground := Go.Ground.phase }, { on := 8, ground := Go.Ground.phase }, { on := 9, ground := Go.Ground.phase }, { on := 10, ground := Go.Ground.phase }, { on := 11, ground := Go.Ground.phase }, { on := 12, ground := Go.Ground.phase }, { on := 13, ground := Go.Ground.textOnly Go.Departure.lateStores }], guard := none }) (v := ?va14) rfl (by kernel_rfl) (by kernel_rfl) (by kernel_rfl) (fun _ _ _ h => h) (Or.inl ⟨by rfl, ?ya14⟩) (by assumption) ?ra14
        case ya14 => (intro wq hSw; (try dsimp only at hSw); go_simp; try with_reducible rfl)
        simp only [Act.put, List.setIfInBounds_toArray, List.set_cons_zero, List.set_cons_succ]
        refine wpAnyH_take (i := 15) (oi := { dst := some 6, op := Go.Op.assign (Go.Operand.tmp 67), type := 25, pos := "ref.go:126", after := #[{ on := 13, ground := Go.Ground.data }, { on := 14, ground := Go.Ground.chain }, { on := 0, ground := Go.Ground.phase }, { on := 1, ground := Go.Ground.phase }, { on := 2, ground := Go.Ground.phase }, { on := 3, ground := Go.Ground.phase }, { on := 4, ground := Go.Ground.phase }, { on := 5, ground := Go.Ground.phase }, { on := 6, ground := Go.Ground.phase }, { on := 7, ground := Go.Ground.phase }, { on := 8, ground := Go.Ground.phase }, { on := 9, ground := Go.Ground.phase }, { on := 10, ground := Go.Ground.phase }, { on := 11, ground := Go.Ground.phase }, { on := 12, ground := Go.Ground.phase }, { on := 13, ground := Go.Ground.phase }, { on := 14, ground := Go.Ground.phase }], guard := none }) (v := ?va15) rfl (by kernel_rfl) (by kernel_rfl) (by kernel_rfl) (fun _ _ _ h => h) (Or.inl ⟨by rfl, ?ya15⟩) (by assumption) ?ra15
        case ya15 => (intro wq hSw; (try dsimp only at hSw); go_simp; try with_reducible rfl)
        simp only [Act.put, List.setIfInBounds_toArray, List.set_cons_zero, List.set_cons_succ]
        refine wpAnyH_done (by kernel_rfl) ?_ _
        clear hSb hS0 c0 c1
        obtain ⟨c0, c1, c2, c3, c4, c5⟩ := R9.out.cs
        rw [hov] at c2
        clear c0 c1 c3 c4 c5
        have hPS : plainS ⟨s.drop at0, o, n, l⟩ = if (gone t).2 = false ∨ (o = [] ∧ t.all spB = false) then .er 2 else .ok ⟨s.drop k, o, n, put (gone t).1 o l⟩ := by
          unfold plainS
          simp only [HP.out.1, HP.out.2]
        have hgl := gone_le t
        generalize t.all spB = bl at *
        have bad : (gone t).2 = false ∨ (o = [] ∧ bl = false) → ∀ (w' : World), Rd b s k ov n lv 2 w' → Ob b w w' → PlP B0 b s at0 o n l w (.returned (.tuple #[])) w' := fun hc w' h1 o1 => by
          obtain ⟨q1, q2⟩ := HB.out k n 2 w' h1 o1
          refine ⟨rfl, q2, ?_⟩
          rw [hPS, if_pos hc]
          exact ⟨k, hks, q1⟩
        have good : ¬ ((gone t).2 = false ∨ (o = [] ∧ bl = false)) → ∀ (w' : World), RS B0 b s k o n (put (gone t).1 o l) 0 w' → Below B0 w w' → PlP B0 b s at0 o n l w (.returned (.tuple #[])) w' := fun hc w' h1 o1 => by
          refine ⟨rfl, o1, ?_⟩
          rw [hPS, if_neg hc]
          show RS B0 b s (s.length - (s.drop k).length) o n (put (gone t).1 o l) 0 w'
          rw [hdk]; exact h1
        obtain ⟨q1, q2⟩ := HB.out k n 0 w9 R9.out O9.out
        have GB := Lib.hid (And.intro bad good)
        have RSS := Lib.hid (And.intro q1 q2)
        clear bad good q1 q2 hPS
        have hR0' : True := trivial
        cases hg : (gone t).2 with
        | false =>
          have hde : deE t = 2 := by unfold deE; rw [hg]; rfl
          rw [hde]
          have HG := Lib.hid (GB.out.1 (Or.inl hg))
          clear hde hg GB
          go_wp2_with fail
          refine (rfail_any b s k ov n lv 0 2 _ R9.out).mono ?_
          rintro r w10 ⟨rfl, h10, o10⟩
          have Z := Lib.hid (HG.out w10 h10 (O9.out.trans o10))
          clear h10 o10 HG
          go_wp2
          refine bodyPost_ret (results_none rfl _ _ _) rfl ?_
          exact Z.out
        | true =>
          have hde := deE_of hg
          have hdt := deT_ok hg
          rw [hde, hdt]
          by_cases ho : o = []
          · cases bl with
            | false =>
              have HG := Lib.hid (GB.out.1 (Or.inr ⟨ho, rfl⟩))
              have hlen : o.length = 0 := by rw [ho]; rfl
              rw [hlen] at c2
              clear hde hg GB hdt
              go_wp2_with fail
              refine (rfail_any b s k ov n lv 0 2 _ R9.out).mono ?_
              rintro r w10 ⟨rfl, h10, o10⟩
              have Z := Lib.hid (HG.out w10 h10 (O9.out.trans o10))
              clear h10 o10 HG
              go_wp2
              refine bodyPost_ret (results_none rfl _ _ _) rfl ?_
              exact Z.out
            | true =>
              have HG := Lib.hid (GB.out.2 (by rw [hg]; simp))
              have hlen : o.length = 0 := by rw [ho]; rfl
              have c2' := c2
              rw [hlen] at c2'
              clear hde hg GB hdt c2
              go_wp2_with fail
              refine (rtext_any B0 b s (gone t).1 k o n l 0 _ RSS.out.1 hl hol).mono ?_
              rintro r w10 ⟨rfl, h10, b10⟩
              have Z := Lib.hid (HG.out w10 h10 (RSS.out.2.trans b10))
              clear h10 b10 HG
              go_wp2
              go_end0
              exact Z.out
          · have hlen : ((o.length : Int) == 0) = false := by simp; exact ho
            have HG := Lib.hid (GB.out.2 (by rw [hg]; simp [ho]))
            clear hde hg GB hdt
            go_wp2_with fail
            refine (rtext_any B0 b s (gone t).1 k o n l 0 _ RSS.out.1 hl hol).mono ?_
            rintro r w10 ⟨rfl, h10, b10⟩
            have Z := Lib.hid (HG.out w10 h10 (RSS.out.2.trans b10))
            clear h10 b10 HG
            go_wp2
            go_end0
            exact Z.out
      · have gb : ((a.toNat : Int) != 60) = true := by simp; omega
        have hne : a ≠ 60 := fun e => h60 (by rw [e]; rfl)
        have HI2 := Lib.hid (show ∀ c ∈ (s.take (k + 1)).drop at0, c ≠ (60 : UInt8) by
          rw [HS.out]
          intro c hc
          rcases List.mem_append.1 hc with hc | hc
          · exact hI.out c hc
          · simp only [List.mem_singleton] at hc; subst hc; exact hne)
        have HBL := Lib.hid (show ((s.take (k + 1)).drop at0).all spB = (((s.take k).drop at0).all spB && spB a) by rw [HS.out, List.all_append]; simp)
        clear h60 hne
        go_upto_region 2 with (fail)
        go_quiet (fail)
        rename_i nq
        have R2 := Lib.hid (hR.out.kept ((Kept.refl wr).drewN nq))
        have O2 := Lib.hid (hO.out.drewN nq)
        generalize wr.drewN nq = W2 at *
        clear hR hO c0 c1
        obtain ⟨c0, c1, c2, c3, c4, c5⟩ := R2.out.cs
        clear c2 c3 c4 c5
        go_upto_region 3 with (fail)
        go_quiet (first | (go_at_call 54; exact quiet_eq (rspace_any a _)))
        obtain ⟨W3, hW3, R3, O3⟩ : ∃ W3, W3 = W2.drewN nq ∧ Hid (Rd b s k ov n lv 0 W3) ∧ Hid (Ob b w W3) := ⟨_, rfl, Lib.hid (R2.out.kept ((Kept.refl W2).drewN _)), Lib.hid (O2.out.drewN _)⟩
        rw [← hW3]
        clear hW3 c0 c1 R2 O2
        obtain ⟨c0, c1, c2, c3, c4, c5⟩ := R3.out.cs
        have f1 := R3.out.fz 1
        have R4 := Lib.hid (R3.out.setAt (k + 1))
        have O4 := Lib.hid (O3.out.set 1 (iV ((k + 1 : Nat) : Int)))
        clear c2 c3 c4 c5
        generalize ((s.take k).drop at0).all spB = bb at *
        cases bb <;> cases hsb : spB a
        all_goals
          rw [hsb] at HBL
          go_wp2
          go_roundw
          case rel => exact ⟨k + 1, by omega, hlt, by rw [HBL.out]; rfl, R4, O4, HI2⟩
          case measure =>
            have := R4.out.cs.2.1
            rw [hmes]
            show s.length - (intOf (((W3.setCell ⟨b, 1, none⟩ (iV ((k + 1 : Nat) : Int))).cell? ⟨b, 1, none⟩).getD undef)).toNat < s.length - k
            rw [this]
            simp [intOf]; omega
    · have hd : decide ((k : Int) < s.length) = false := decide_eq_false (by omega)
      have HP := Lib.hid (plain_at hak hks hI.out (Or.inl (by omega)))
      go_upto_region 2 with (fail)
      go_quiet (fail)
      rename_i nq
      have R2 := Lib.hid (hR.out.kept ((Kept.refl wr).drewN nq))
      have O2 := Lib.hid (hO.out.drewN nq)
      generalize wr.drewN nq = W2 at *
      clear hR hO c0 c1
      have hcb := cut_both s at0 k hak hks
      have hcl : ((s.take k).drop at0).length ≤ 1000000 := by rw [List.length_drop, List.length_take]; omega
      have hdk : s.length - (s.drop k).length = k := by rw [List.length_drop]; omega
      generalize (s.take k).drop at0 = t at *
      go_upto_region 6 with (fail)
      have KD := Lib.hid ((Kept.refl W2).drew)
      obtain ⟨c0, c1, c2, c3, c4, c5⟩ := R2.out.cs
      clear c2 c3 c4 c5
      refine wp_region_held_drew (S := fun y => Kept W2 y ∧ y.cell? ⟨b, 0, none⟩ = some (sV s) ∧ y.cell? ⟨b, 1, none⟩ = some (iV k)) (by kernel_rfl) ⟨KD.out, c0, c1⟩ (fun hS0 => ?_)
      refine wpAnyH_take (i := 0) (oi := { dst := some 55, op := Go.Op.move (Go.Operand.tmp 0), type := 46, pos := "ref.go:126", after := #[], guard := none }) (v := ?vb0) rfl (by kernel_rfl) (by kernel_rfl) (by kernel_rfl) (fun _ _ _ h => h) (Or.inl ⟨by rfl, ?yb0⟩) (by assumption) ?rb0
      case yb0 => (intro wq hSw; (try dsimp only at hSw); go_simp; try with_reducible rfl)
      simp only [Act.put, List.setIfInBounds_toArray, List.set_cons_zero, List.set_cons_succ]
      refine wpAnyH_take (i := 1) (oi := { dst := some 56, op := Go.Op.nilCheck (Go.Operand.tmp 55), type := 0, pos := "ref.go:126", after := #[{ on := 0, ground := Go.Ground.data }], guard := none }) (v := ?vb1) rfl (by kernel_rfl) (by kernel_rfl) (by kernel_rfl) (fun _ _ _ h => h) (Or.inl ⟨by rfl, ?yb1⟩) (by assumption) ?rb1
      case yb1 => (intro wq hSw; (try dsimp only at hSw); go_simp; try with_reducible rfl)
      simp only [Act.put, List.setIfInBounds_toArray, List.set_cons_zero, List.set_cons_succ]
      refine wpAnyH_take (i := 2) (oi := { dst := some 57, op := Go.Op.fieldAddr 48 (Go.Operand.tmp 56) 0, type := 0, pos := "ref.go:126", after := #[{ on := 1, ground := Go.Ground.data }], guard := none }) (v := ?vb2) rfl (by kernel_rfl) (by kernel_rfl) (by kernel_rfl) (fun _ _ _ h => h) (Or.inl ⟨by rfl, ?yb2⟩) (by assumption) ?rb2
      case yb2 => (intro wq hSw; (try dsimp only at hSw); go_simp; try with_reducible rfl)
      simp only [Act.put, List.setIfInBounds_toArray, List.set_cons_zero, List.set_cons_succ]
      refine wpAnyH_take (i := 3) (oi := { dst := some 58, op := Go.Op.load 9 (Go.Operand.tmp 57), type := 9, pos := "ref.go:126", after := #[{ on := 2, ground := Go.Ground.data }], guard := none }) (v := ?vb3) rfl (by kernel_rfl) (by kernel_rfl) (by kernel_rfl) (fun _ _ _ h => h) (Or.inl ⟨by rfl, ?yb3⟩) (by assumption) ?rb3
      case yb3 => (intro wq hSw; (try dsimp only at hSw); go_simp; try with_reducible rfl)
      simp only [Act.put, List.setIfInBounds_toArray, List.set_cons_zero, List.set_cons_succ]
      refine wpAnyH_take (i := 4) (oi := { dst := some 59, op := Go.Op.move (Go.Operand.tmp 2), type := 3, pos := "ref.go:126", after := #[], guard := none }) (v := ?vb4) rfl (by kernel_rfl) (by kernel_rfl) (by kernel_rfl) (fun _ _ _ h => h) (Or.inl ⟨by rfl, ?yb4⟩) (by assumption) ?rb4
      case yb4 => (intro wq hSw; (try dsimp only at hSw); go_simp; try with_reducible rfl)
      simp only [Act.put, List.setIfInBounds_toArray, List.set_cons_zero, List.set_cons_succ]
      refine wpAnyH_take (i := 5) (oi := { dst := some 60, op := Go.Op.move (Go.Operand.tmp 0), type := 46, pos := "ref.go:126", after := #[], guard := none }) (v := ?vb5) rfl (by kernel_rfl) (by kernel_rfl) (by kernel_rfl) (fun _ _ _ h => h) (Or.inl ⟨by rfl, ?yb5⟩) (by assumption) ?rb5
      case yb5 => (intro wq hSw; (try dsimp only at hSw); go_simp; try with_reducible rfl)
      simp only [Act.put, List.setIfInBounds_toArray, List.set_cons_zero, List.set_cons_succ]
      refine wpAnyH_take (i := 6) (oi := { dst := some 61, op := Go.Op.nilCheck (Go.Operand.tmp 60), type := 0, pos := "ref.go:126", after := #[{ on := 5, ground := Go.Ground.data }], guard := none }) (v := ?vb6) rfl (by kernel_rfl) (by kernel_rfl) (by kernel_rfl) (fun _ _ _ h => h) (Or.inl ⟨by rfl, ?yb6⟩) (by assumption) ?rb6
      case yb6 => (intro wq hSw; (try dsimp only at hSw); go_simp; try with_reducible rfl)
      simp only [Act.put, List.setIfInBounds_toArray, List.set_cons_zero, List.set_cons_succ]
      refine wpAnyH_take (i := 7) (oi := { dst := some 62, op := Go.Op.fieldAddr 48 (Go.Operand.tmp 61) 1, type := 0, pos := "ref.go:126", after := #[{ on := 6, ground := Go.Ground.data }], guard := none }) (v := ?vb7) rfl (by kernel_rfl) (by kernel_rfl) (by kernel_rfl) (fun _ _ _ h => h) (Or.inl ⟨by rfl, ?yb7⟩) (by assumption) ?rb7
      case yb7 => (intro wq hSw; (try dsimp only at hSw); go_simp; try with_reducible rfl)
      simp only [Act.put, List.setIfInBounds_toArray, List.set_cons_zero, List.set_cons_succ]
      refine wpAnyH_take (i := 8) (oi := { dst := some 63, op := Go.Op.load 3 (Go.Operand.tmp 62), type := 3, pos := "ref.go:126", after := #[{ on := 7, ground := Go.Ground.data }], guard := none }) (v := ?vb8) rfl (by kernel_rfl) (by kernel_rfl) (by kernel_rfl) (fun _ _ _ h => h) (Or.inl ⟨by rfl, ?yb8⟩) (by assumption) ?rb8
      case yb8 => (intro wq hSw; (try dsimp only at hSw); go_simp; try with_reducible rfl)
      simp only [Act.put, List.setIfInBounds_toArray, List.set_cons_zero, List.set_cons_succ]
      refine wpAnyH_take (i := 9) (oi := { dst := some 64, op := Go.Op.slice 9 (Go.Operand.tmp 58) (some (Go.Operand.tmp 59)) (some (Go.Operand.tmp 63)) none, type := 9, pos := "ref.go:126", after := #[{ on := 3, ground := Go.Ground.data }, { on := 4, ground := Go.Ground.data }, { on := 8, ground := Go.Ground.data }], guard := none }) (v := ?vb9) rfl (by kernel_rfl) (by kernel_rfl) (by kernel_rfl) (fun _ _ _ h => h) (Or.inl ⟨by rfl, ?yb9⟩) (by assumption) ?rb9
      case yb9 => (intro wq hSw; (try dsimp only at hSw); go_simp; try with_reducible rfl)
      simp only [Act.put, List.setIfInBounds_toArray, List.set_cons_zero, List.set_cons_succ]
      refine wpAnyH_ready (rs := [10]) (by kernel_rfl) (by simp) (AllReadyH.cons (o := { dst := some 65, op := Go.Op.call { callee := Go.Callee.value (Go.Operand.func 55), args := #[Go.Operand.tmp 64], argTypes := #[9] }, type := 75, pos := "ref.go:126", after := #[{ on := 9, ground := Go.Ground.data }], guard := none }) rfl (fun K hK => ?_) AllReadyH.nil)
      go_simp
      go_at_call 55; refine (rdecode_any t _ hcl).mono ?_
      rintro r w9 ⟨rfl, k9⟩
      have R9 := Lib.hid (R2.out.kept (KD.out.trans k9))
      have O9 := Lib.hid (O2.out.kept (KD.out.trans k9))
      refine Shut.out hK _ _ ⟨KD.out.trans k9, R9.out.cs.1, R9.out.cs.2.1⟩ (fun hSb => ?_)
      clear hK K
      try simp only [Act.put, List.setIfInBounds_toArray, List.set_cons_zero, List.set_cons_succ]
      refine wpAnyH_take (i := 11) (oi := { dst := some 54, op := Go.Op.move (Go.Operand.tmp 65), type := 75, pos := "ref.go:126", after := #[{ on := 10, ground := Go.Ground.data }], guard := none }) (v := ?vb11) rfl (by kernel_rfl) (by kernel_rfl) (by kernel_rfl) (fun _ _ _ h => h) (Or.inl ⟨by rfl, ?yb11⟩) (by assumption) ?rb11
      case yb11 => (intro wq hSw; (try dsimp only at hSw); go_simp; try with_reducible rfl)
      simp only [Act.put, List.setIfInBounds_toArray, List.set_cons_zero, List.set_cons_succ]
      refine wpAnyH_take (i := 12) (oi := { dst := some 66, op := Go.Op.extract (Go.Operand.tmp 54) 0, type := 9, pos := "ref.go:126", after := #[{ on := 11, ground := Go.Ground.data }], guard := none }) (v := ?vb12) rfl (by kernel_rfl) (by kernel_rfl) (by kernel_rfl) (fun _ _ _ h => h) (Or.inl ⟨by rfl, ?yb12⟩) (by assumption) ?rb12
      case yb12 => (intro wq hSw; (try dsimp only at hSw); go_simp; try with_reducible rfl)
      simp only [Act.put, List.setIfInBounds_toArray, List.set_cons_zero, List.set_cons_succ]
      refine wpAnyH_take (i := 13) (oi := { dst := some 67, op := Go.Op.extract (Go.Operand.tmp 54) 1, type := 25, pos := "ref.go:126", after := #[{ on := 11, ground := Go.Ground.data }, { on := 14, ground := Go.Ground.gcOnly Go.Departure.lateStores }], guard := none }) (v := ?vb13) rfl (by kernel_rfl) (by kernel_rfl) (by kernel_rfl) (fun _ _ _ h => h) (Or.inl ⟨by rfl, ?yb13⟩) (by assumption) ?rb13
      case yb13 => (intro wq hSw; (try dsimp only at hSw); go_simp; try with_reducible rfl)
      simp only [Act.put, List.setIfInBounds_toArray, List.set_cons_zero, List.set_cons_succ]
      refine wpAnyH_take (i := 14) (oi := { dst := some 5, op := Go.Op.assign (Go.Operand.tmp 66), type := 9, pos := "ref.go:126", after := #[{ on := 12, ground := Go.Ground.data }, { on := 10, ground := Go.Ground.chain }, { on := 0, ground := Go.Ground.phase }, { on := 1, ground := Go.Ground.phase }, { on := 2, ground := Go.Ground.phase }, { on := 3, ground := Go.Ground.phase }, { on := 4, ground := Go.Ground.phase }, { on := 5, ground := Go.Ground.phase }, { on := 6, ground := Go.Ground.phase }, { on := 7, ground := Go.Ground.phase }, { on := 8, ground := Go.Ground.phase }, { on := 9, ground := Go.Ground.phase }, { on := 10, ground := Go.Ground.phase }, { on := 11, ground := Go.Ground.phase }, { on := 12, ground := Go.Ground.phase }, { on := 13, ground := Go.Ground.textOnly Go.Departure.lateStores }], guard := none }) (v := ?vb14) rfl (by kernel_rfl) (by kernel_rfl) (by kernel_rfl) (fun _ _ _ h => h) (Or.inl ⟨by rfl, ?yb14⟩) (by assumption) ?rb14
      case yb14 => (intro wq hSw; (try dsimp only at hSw); go_simp; try with_reducible rfl)
      simp only [Act.put, List.setIfInBounds_toArray, List.set_cons_zero, List.set_cons_succ]
      refine wpAnyH_take (i := 15) (oi := { dst := some 6, op := Go.Op.assign (Go.Operand.tmp 67), type := 25, pos := "ref.go:126", after := #[{ on := 13, ground := Go.Ground.data }, { on := 14, ground := Go.Ground.chain }, { on := 0, ground := Go.Ground.phase }, { on := 1, ground := Go.Ground.phase }, { on := 2, ground := Go.Ground.phase }, { on := 3, ground := Go.Ground.phase }, { on := 4, ground := Go.Ground.phase }, { on := 5, ground := Go.Ground.phase }, { on := 6, ground := Go.Ground.phase }, { on := 7, ground := Go.Ground.phase }, { on := 8, ground := Go.Ground.phase }, { on := 9, ground := Go.Ground.phase }, { on := 10, ground := Go.Ground.phase }, { on := 11, ground := Go.Ground.phase }, { on := 12, ground := Go.Ground.phase }, { on := 13, ground := Go.Ground.phase }, { on := 14, ground := Go.Ground.phase }], guard := none }) (v := ?vb15) rfl (by kernel_rfl) (by kernel_rfl) (by kernel_rfl) (fun _ _ _ h => h) (Or.inl ⟨by rfl, ?yb15⟩) (by assumption) ?rb15
      case yb15 => (intro wq hSw; (try dsimp only at hSw); go_simp; try with_reducible rfl)
      simp only [Act.put, List.setIfInBounds_toArray, List.set_cons_zero, List.set_cons_succ]
      refine wpAnyH_done (by kernel_rfl) ?_ _
      clear hSb hS0 c0 c1
      obtain ⟨c0, c1, c2, c3, c4, c5⟩ := R9.out.cs
      rw [hov] at c2
      clear c0 c1 c3 c4 c5
      have hPS : plainS ⟨s.drop at0, o, n, l⟩ = if (gone t).2 = false ∨ (o = [] ∧ t.all spB = false) then .er 2 else .ok ⟨s.drop k, o, n, put (gone t).1 o l⟩ := by
        unfold plainS
        simp only [HP.out.1, HP.out.2]
      have hgl := gone_le t
      generalize t.all spB = bl at *
      have bad : (gone t).2 = false ∨ (o = [] ∧ bl = false) → ∀ (w' : World), Rd b s k ov n lv 2 w' → Ob b w w' → PlP B0 b s at0 o n l w (.returned (.tuple #[])) w' := fun hc w' h1 o1 => by
        obtain ⟨q1, q2⟩ := HB.out k n 2 w' h1 o1
        refine ⟨rfl, q2, ?_⟩
        rw [hPS, if_pos hc]
        exact ⟨k, hks, q1⟩
      have good : ¬ ((gone t).2 = false ∨ (o = [] ∧ bl = false)) → ∀ (w' : World), RS B0 b s k o n (put (gone t).1 o l) 0 w' → Below B0 w w' → PlP B0 b s at0 o n l w (.returned (.tuple #[])) w' := fun hc w' h1 o1 => by
        refine ⟨rfl, o1, ?_⟩
        rw [hPS, if_neg hc]
        show RS B0 b s (s.length - (s.drop k).length) o n (put (gone t).1 o l) 0 w'
        rw [hdk]; exact h1
      obtain ⟨q1, q2⟩ := HB.out k n 0 w9 R9.out O9.out
      have GB := Lib.hid (And.intro bad good)
      have RSS := Lib.hid (And.intro q1 q2)
      clear bad good q1 q2 hPS
      have hR0' : True := trivial
      cases hg : (gone t).2 with
      | false =>
        have hde : deE t = 2 := by unfold deE; rw [hg]; rfl
        rw [hde]
        have HG := Lib.hid (GB.out.1 (Or.inl hg))
        clear hde hg GB
        go_wp2_with fail
        refine (rfail_any b s k ov n lv 0 2 _ R9.out).mono ?_
        rintro r w10 ⟨rfl, h10, o10⟩
        have Z := Lib.hid (HG.out w10 h10 (O9.out.trans o10))
        clear h10 o10 HG
        go_wp2
        refine bodyPost_ret (results_none rfl _ _ _) rfl ?_
        exact Z.out
      | true =>
        have hde := deE_of hg
        have hdt := deT_ok hg
        rw [hde, hdt]
        by_cases ho : o = []
        · cases bl with
          | false =>
            have HG := Lib.hid (GB.out.1 (Or.inr ⟨ho, rfl⟩))
            have hlen : o.length = 0 := by rw [ho]; rfl
            rw [hlen] at c2
            clear hde hg GB hdt
            go_wp2_with fail
            refine (rfail_any b s k ov n lv 0 2 _ R9.out).mono ?_
            rintro r w10 ⟨rfl, h10, o10⟩
            have Z := Lib.hid (HG.out w10 h10 (O9.out.trans o10))
            clear h10 o10 HG
            go_wp2
            refine bodyPost_ret (results_none rfl _ _ _) rfl ?_
            exact Z.out
          | true =>
            have HG := Lib.hid (GB.out.2 (by rw [hg]; simp))
            have hlen : o.length = 0 := by rw [ho]; rfl
            have c2' := c2
            rw [hlen] at c2'
            clear hde hg GB hdt c2
            go_wp2_with fail
            refine (rtext_any B0 b s (gone t).1 k o n l 0 _ RSS.out.1 hl hol).mono ?_
            rintro r w10 ⟨rfl, h10, b10⟩
            have Z := Lib.hid (HG.out w10 h10 (RSS.out.2.trans b10))
            clear h10 b10 HG
            go_wp2
            go_end0
            exact Z.out
        · have hlen : ((o.length : Int) == 0) = false := by simp; exact ho
          have HG := Lib.hid (GB.out.2 (by rw [hg]; simp [ho]))
          clear hde hg GB hdt
          go_wp2_with fail
          refine (rtext_any B0 b s (gone t).1 k o n l 0 _ RSS.out.1 hl hol).mono ?_
          rintro r w10 ⟨rfl, h10, b10⟩
          have Z := Lib.hid (HG.out w10 h10 (RSS.out.2.trans b10))
          clear h10 b10 HG
          go_wp2
          go_end0
          exact Z.out
end Go.Proofs.YtknggeplnffegaaGreatDoor
