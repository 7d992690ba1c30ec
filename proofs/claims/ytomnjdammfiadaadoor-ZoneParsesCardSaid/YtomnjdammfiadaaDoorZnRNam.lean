/- Contracts of the document's reader of zones: names. -/
import Derived.Test.YtomnjdammfiadaaDoorZnRNum
import Derived.Test.YtomnjdammfiadaaDoorZnRdN
namespace Go.Proofs.YtomnjdammfiadaaDoor
open Go.ChangeShapes Go.WideShapes Go.ChangeAt Go.RowKit
open Zn
def atOf (bk : Nat) (x : World) : Nat := match x.cell? ⟨bk, 1, none⟩ with
  | some (.int _ n) => n.toNat
  | _ => 0
theorem Rr.atOf {bk : Nat} {S l : List UInt8} {bad : Bool} {x : World} (h : Rr bk S l bad x) : atOf bk x = S.length - l.length := by
  unfold Go.Proofs.YtomnjdammfiadaaDoor.atOf; rw [cell_of (j := 1) h.blk rfl]; simp
/-- within a name: so many bytes of it have been passed -/
def NmR (p : UInt8 → Bool) (S l : List UInt8) (bad : Bool) (bk : Nat) (w x : World) : Prop :=
  ∃ j : Nat, j ≤ l.length ∧ (l.take j).all p = true ∧ Onl bk w x ∧ Rr bk S (l.drop j) bad x
theorem tw_eq {p : UInt8 → Bool} {l : List UInt8} {j : Nat} (ha : (l.take j).all p = true) (hs : stp p (l.drop j) = true) : l.takeWhile p = l.take j ∧ l.dropWhile p = l.drop j := by
  have := tw ha hs
  rwa [List.take_append_drop] at this
theorem nam_yesR {l : List UInt8} (h : (skp 60 l).1 = true) : namR l = ((skp 60 l).2.takeWhile ngt, (skp 62 ((skp 60 l).2.dropWhile ngt)).2, !(skp 62 ((skp 60 l).2.dropWhile ngt)).1) := by
  unfold namR; rcases hk : skp 60 l with ⟨b, r⟩; rw [hk] at h; simp only at h; subst h; rfl
theorem nam_noR {l : List UInt8} (h : (skp 60 l).1 = false) : namR l = ((skp 60 l).2.takeWhile ltr, (skp 60 l).2.dropWhile ltr, false) := by
  unfold namR; rcases hk : skp 60 l with ⟨b, r⟩; rw [hk] at h; simp only at h; subst h; rfl
theorem slice_run {S la : List UInt8} {f k j : Nat} (hsuf : S.drop f = la) (hf : f ≤ S.length) (hj : j ≤ la.length) (hk : k = f + j) (W : World) :
    (Instr.slice 9 (.string ⟨S.toArray⟩) (some (.int .i64 (f : Int))) (some (.int .i64 (k : Int))) none).run Tryd.prog W = .ok (.string ⟨(la.take j).toArray⟩) W := by
  have hl : la.length = S.length - f := by rw [← hsuf]; simp
  subst hk
  rw [run_slice_string W 9 _ .i64 .i64 _ _ Tryd.underlying9 (by omega) (by omega) (by show ((f + j : Nat) : Int) ≤ S.length; omega)]
  rw [show (f : Int).toNat = f by omega, show ((f + j : Nat) : Int).toNat = f + j by omega, ByteArray.extract_mk, hsuf, show f + j - f = j by omega]
set_option maxRecDepth 100000 in
set_option maxHeartbeats 4000000 in
theorem nameR_any (S l : List UInt8) (bad : Bool) (bk : Nat) (w : World) (h : Rr bk S l bad w) :
    Calls Tryd.prog 32 #[.pointer (some ⟨bk, 0, none⟩)] w (StepR (.string ⟨(namR l).1.toArray⟩) S (namR l).2.1 (bad || (namR l).2.2) bk w) := by
  have c1 : w.cell? ⟨bk, 1, none⟩ = some (.int .i64 ((S.length - l.length : Nat) : Int)) := cell_of (j := 1) h.blk rfl
  have hle := h.le
  have hs := h.sl
  have H := Lib.hid h; clear h
  go_enter Tryd.func32, Tryd.ntmps32
  go_wp2_with fail
  refine (is_any 60 S l bad bk _ H.out).mono ?_
  rintro e w1 ⟨rfl, o1, r1⟩
  have O1 := Lib.hid o1; clear o1
  have R1 := Lib.hid r1; clear r1
  clear c1
  cases hb : (skp 60 l).1 with
  | true =>
    have NE := Lib.hid (nam_yesR hb)
    have hl1 : l.length = (skp 60 l).2.length + 1 := by
      cases l with
      | nil => cases hb
      | cons b r => simp only [skp] at hb ⊢; split at hb <;> rename_i hc <;> simp [hc] at hb ⊢
    clear hb
    generalize (skp 60 l).2 = la at *
    have hf : S.length - l.length + 1 = S.length - la.length := by omega
    have HF := Lib.hid hf; clear hf hl1
    generalize S.length - l.length = f at *
    go_wp2_with fail
    go_loopw [] (fun x => NmR ngt S la bad bk w x) (fun x => S.length - atOf bk x)
    case atStart => exact ⟨0, Nat.zero_le _, by simp, O1.out, by simpa using R1.out⟩
    case round =>
      obtain ⟨j, hj, ha, ho, hr⟩ := hrel
      have HA := Lib.hid ha; clear ha
      have HO := Lib.hid ho; clear ho
      have c0 : wr.cell? ⟨bk, 0, none⟩ = some (.string ⟨S.toArray⟩) := cell_of (j := 0) hr.blk rfl
      have c1 : wr.cell? ⟨bk, 1, none⟩ = some (.int .i64 ((S.length - (la.drop j).length : Nat) : Int)) := cell_of (j := 1) hr.blk rfl
      have c2 : wr.cell? ⟨bk, 2, none⟩ = some (.bool bad) := cell_of (j := 2) hr.blk rfl
      have f1 := fro_of hr.blk
      have AT := Lib.hid hr.atOf
      cases hd : la.drop j with
      | nil =>
        rw [hd] at c1 hr AT
        simp only [List.length_nil, Nat.sub_zero] at c1
        obtain ⟨t1, t2⟩ := tw_eq HA.out (by rw [hd]; rfl)
        rw [hd] at t2
        have hjl : j = la.length := by have := congrArg List.length hd; simp at this; omega
        have hsl := slice_run (S := S) (la := la) (f := S.length - la.length) (k := S.length) (j := j) R1.out.suf (by omega) hj (by have := R1.out.le; omega)
        rw [← HF.out] at hsl
        have hfb : f ≤ 1000 := by have := HF.out; omega
        have hfw : IntKind.i64.wrap ((f : Int) + 1) = (f : Int) + 1 := IntWalk.i64_in _ (by omega)
        have hsl2 : ∀ W, (Instr.slice 9 (.string ⟨S.toArray⟩) (some (.int .i64 ((f : Int) + 1))) (some (.int .i64 (S.length : Int))) none).run Tryd.prog W = .ok (.string ⟨(la.take j).toArray⟩) W := fun W => by have := hsl W; rwa [show ((f + 1 : Nat) : Int) = (f : Int) + 1 by omega] at this
        clear hsl
        have T1 := Lib.hid t1; clear t1
        have T2 := Lib.hid t2; clear t2 hjl
        have HR := Lib.hid hr; clear hr hd
        have hg : decide (S.length < S.length) = false := by simp
        go_wp2_with fail
        go_quiet (fail)
        go_wp2_with fail
        go_quiet (fail)
        go_wp2_with fail
        refine (is_any 62 S [] bad bk _ (HR.out.drewN _)).mono ?_
        rw [show skp 62 [] = (false, []) from rfl]
        rintro e w4 ⟨rfl, o4, r4⟩
        clear c0 c1 c2 f1
        have O4 := Lib.hid o4; clear o4
        have c2 := cell_of (j := 2) r4.blk rfl
        have f1 := fro_of r4.blk
        have R4 := Lib.hid r4; clear r4
        go_wp2
        go_ret
        rw [NE.out, T1.out, T2.out]
        exact ⟨rfl, ((HO.out.drewN _).trans O4.out).set _ _, by simpa [skp] using R4.out.spoil true⟩
      | cons c r =>
        rw [hd] at c1 hr AT
        obtain ⟨hk, hat⟩ := hr.at
        have hle := hr.le
        simp only [List.length_cons] at c1 hle AT
        have TL := Lib.hid (fun n => (hr.drewN n).tail)
        have hv : ((S.length - r.length : Nat) : Int) = ((S.length - (r.length + 1) : Nat) : Int) + 1 := by omega
        rw [hv] at TL
        have hv2 : S.length - r.length = S.length - (r.length + 1) + 1 := by omega
        clear hv
        have HR := Lib.hid hr; clear hr
        obtain ⟨s1, s2, s3⟩ := step_at hd
        have S1 := Lib.hid s1; clear s1
        have S2 := Lib.hid s2; clear s2
        have HD := Lib.hid hd; clear hd
        have HV := Lib.hid hv2; clear hv2
        generalize S.length - (r.length + 1) = k at *
        have e : ((ByteArray.mk S.toArray)[k]'hk) = c := hat
        have E := Lib.hid e; clear e hat
        have hg : decide (k < S.length) = true := by simp; omega
        have hk1 : (0 : Int) ≤ k := by omega
        have hk2 : (k : Int) < S.length := by omega
        by_cases h62 : c = 62
        · have g1 : ((((ByteArray.mk S.toArray)[k]'hk).toNat : Int) != 62) = false := by
            rw [E.out, h62]; rfl
          obtain ⟨t1, t2⟩ := tw_eq HA.out (by rw [HD.out, h62]; simp [stp]; decide)
          rw [HD.out] at t2
          have hkf : k = S.length - la.length + j := by
            have := congrArg List.length HD.out
            simp at this
            have := R1.out.le
            have := HV.out
            omega
          have hsl := slice_run (S := S) (la := la) (f := S.length - la.length) (k := k) (j := j) R1.out.suf (by omega) hj hkf
          rw [← HF.out] at hsl
          have T1 := Lib.hid t1; clear t1
          have T2 := Lib.hid t2; clear t2 hkf
          have hfb : f ≤ 1000 := by have := HF.out; omega
          have hfw : IntKind.i64.wrap ((f : Int) + 1) = (f : Int) + 1 := IntWalk.i64_in _ (by omega)
          have hsl2 : ∀ W, (Instr.slice 9 (.string ⟨S.toArray⟩) (some (.int .i64 ((f : Int) + 1))) (some (.int .i64 (k : Int))) none).run Tryd.prog W = .ok (.string ⟨(la.take j).toArray⟩) W := fun W => by have := hsl W; rwa [show ((f + 1 : Nat) : Int) = (f : Int) + 1 by omega] at this
          clear hsl
          subst h62
          go_wp2_with fail
          go_quiet (fail)
          go_wp2_with fail
          go_quiet (fail)
          go_wp2_with fail
          refine (is_any 62 S (62 :: r) bad bk _ (HR.out.drewN _)).mono ?_
          rw [skp_yes]
          rintro e w4 ⟨rfl, o4, r4⟩
          have O4 := Lib.hid o4; clear o4
          have R4 := Lib.hid r4; clear r4
          go_wp2
          go_ret
          rw [NE.out, T1.out, T2.out, skp_yes]
          exact ⟨rfl, (HO.out.drewN _).trans O4.out, by simpa using R4.out⟩
        · have g1 : ((((ByteArray.mk S.toArray)[k]'hk).toNat : Int) != 62) = true := by
            rw [E.out, bne_iff_ne]; intro e; exact h62 (UInt8.toNat_inj.1 (by show c.toNat = 62; omega))
          go_wp2_with fail
          go_quiet (fail)
          go_wp2
          go_roundw
          case rel =>
            refine ⟨j + 1, by omega, ?_, (HO.out.drewN _).set _ _, by rw [S2.out]; exact TL.out _⟩
            rw [S1.out, List.all_append, HA.out]
            simp [ngt, h62]
          case measure =>
            rw [AT.out, (TL.out _).atOf, HV.out]; omega
  | false =>
    have NE := Lib.hid (nam_noR hb)
    have hl1 : (skp 60 l).2 = l := by
      cases l with
      | nil => rfl
      | cons b r => simp only [skp] at hb ⊢; split at hb <;> rename_i hc <;> simp [hc] at hb ⊢
    clear hb
    rw [hl1] at R1 NE
    clear hl1
    have hfb : S.length - l.length ≤ 1000 := by omega
    generalize hff : S.length - l.length = f at hfb ⊢
    have HF := Lib.hid hff; clear hff
    go_wp2_with fail
    go_loopw [] (fun x => NmR ltr S l bad bk w x) (fun x => S.length - atOf bk x)
    case atStart => exact ⟨0, Nat.zero_le _, by simp, O1.out, by simpa using R1.out⟩
    case round =>
      obtain ⟨j, hj, ha, ho, hr⟩ := hrel
      have HA := Lib.hid ha; clear ha
      have HO := Lib.hid ho; clear ho
      have c0 : wr.cell? ⟨bk, 0, none⟩ = some (.string ⟨S.toArray⟩) := cell_of (j := 0) hr.blk rfl
      have c1 : wr.cell? ⟨bk, 1, none⟩ = some (.int .i64 ((S.length - (l.drop j).length : Nat) : Int)) := cell_of (j := 1) hr.blk rfl
      have c2 : wr.cell? ⟨bk, 2, none⟩ = some (.bool bad) := cell_of (j := 2) hr.blk rfl
      have f1 := fro_of hr.blk
      have AT := Lib.hid hr.atOf
      cases hd : l.drop j with
      | nil =>
        rw [hd] at c1 hr AT
        simp only [List.length_nil, Nat.sub_zero] at c1
        obtain ⟨t1, t2⟩ := tw_eq HA.out (by rw [hd]; rfl)
        rw [hd] at t2
        have hjl : j = l.length := by have := congrArg List.length hd; simp at this; omega
        have hsl2 := slice_run (S := S) (la := l) (f := S.length - l.length) (k := S.length) (j := j) R1.out.suf (by omega) hj (by have := R1.out.le; omega)
        rw [HF.out] at hsl2
        have T1 := Lib.hid t1; clear t1
        have T2 := Lib.hid t2; clear t2 hjl
        have HR := Lib.hid hr; clear hr hd
        have hg : decide (S.length < S.length) = false := by simp
        go_wp2_with fail
        go_quiet (fail)
        go_wp2_with fail
        go_quiet (fail)
        go_wp2
        go_ret
        rw [NE.out, T1.out, T2.out]
        exact ⟨rfl, (HO.out.drewN _).drewN _, by simpa using (HR.out.drewN _).drewN _⟩
      | cons c r =>
        rw [hd] at c1 hr AT
        obtain ⟨hk, hat⟩ := hr.at
        have hle := hr.le
        simp only [List.length_cons] at c1 hle AT
        have TL := Lib.hid (fun n => (hr.drewN n).tail)
        have hv : ((S.length - r.length : Nat) : Int) = ((S.length - (r.length + 1) : Nat) : Int) + 1 := by omega
        rw [hv] at TL
        have hv2 : S.length - r.length = S.length - (r.length + 1) + 1 := by omega
        clear hv
        have HR := Lib.hid hr; clear hr
        obtain ⟨s1, s2, s3⟩ := step_at hd
        have S1 := Lib.hid s1; clear s1
        have S2 := Lib.hid s2; clear s2
        have HD := Lib.hid hd; clear hd
        have HV := Lib.hid hv2; clear hv2
        generalize S.length - (r.length + 1) = k at *
        have e : ((ByteArray.mk S.toArray)[k]'hk) = c := hat
        have E := Lib.hid e; clear e hat
        have hg : decide (k < S.length) = true := by simp; omega
        have hk1 : (0 : Int) ≤ k := by omega
        have hk2 : (k : Int) < S.length := by omega
        cases hlt : ltr c with
        | false =>
          have g1 : ltr ((ByteArray.mk S.toArray)[k]'hk) = false := by rw [E.out]; exact hlt
          obtain ⟨t1, t2⟩ := tw_eq HA.out (by rw [HD.out]; simp [stp, hlt])
          rw [HD.out] at t2
          have hkf : k = S.length - l.length + j := by
            have := congrArg List.length HD.out
            simp at this
            have := R1.out.le
            have := HV.out
            omega
          have hsl2 := slice_run (S := S) (la := l) (f := S.length - l.length) (k := k) (j := j) R1.out.suf (by omega) hj hkf
          rw [HF.out] at hsl2
          have T1 := Lib.hid t1; clear t1
          have T2 := Lib.hid t2; clear t2 hkf
          go_wp2_with fail
          go_quiet (fail)
          go_wp2_with fail
          go_quiet (exact (rletter_any _ _).mono fun _ _ ⟨he, hm⟩ => ⟨he, _, hm.symm⟩)
          go_wp2_with fail
          go_quiet (fail)
          go_wp2
          go_ret
          rw [NE.out, T1.out, T2.out]
          exact ⟨rfl, (HO.out.drewN _).drewN _, by simpa using (HR.out.drewN _).drewN _⟩
        | true =>
          have g1 : ltr ((ByteArray.mk S.toArray)[k]'hk) = true := by rw [E.out]; exact hlt
          go_wp2_with fail
          go_quiet (fail)
          go_wp2_with fail
          go_quiet (exact (rletter_any _ _).mono fun _ _ ⟨he, hm⟩ => ⟨he, _, hm.symm⟩)
          go_wp2
          go_roundw
          case rel =>
            refine ⟨j + 1, by omega, ?_, (HO.out.drewN _).set _ _, by rw [S2.out]; exact TL.out _⟩
            rw [S1.out, List.all_append, HA.out]
            simp [hlt]
          case measure =>
            rw [AT.out, (TL.out _).atOf, HV.out]; omega
end Go.Proofs.YtomnjdammfiadaaDoor
