/- Package reply: the lines that are whole are handed on. -/
import Derived.Test.YtdfmnjoklehifaaDoorRpQ
import Derived.Sort.CutIn
set_option linter.unusedSimpArgs false
set_option linter.unusedVariables false
namespace Go.Proofs.YtdfmnjoklehifaaDoor.Bk.Rp
open Go.ChangeShapes Go.WideShapes Go.ChangeAt Go.RowKit Go.Shelf
theorem cut_10 (T : B) : ((10 : UInt8) ∉ T ∧ Lib.cut T [10] = (T, [], false)) ∨ ∃ p t, T = p ++ 10 :: t ∧ (10 : UInt8) ∉ p ∧ Lib.cut T [10] = (p, t, true) := by
  rcases cut_cases 10 T with h | ⟨p, r, rfl, h⟩
  · exact Or.inl ⟨h, cut_miss 10 T h⟩
  · exact Or.inr ⟨p, r, rfl, h, cut_hit 10 r p h⟩
/-- a state of the handing on: what waits, what has been told, what is left to cut -/
abbrev Sg := Int × List B × List Rep × B
def Nx (s : Sg) (a : Array Value) (o : Option Sg) : Prop := ∃ p t x, s.2.2.2 = p ++ 10 :: t ∧ (10 : UInt8) ∉ p ∧ rdL p = some x ∧ a = #[lineV x] ∧ o = (stepL s.1 s.2.1 x).map fun q => (q.2.1, q.2.2, s.2.2.1 ++ q.1, t)
/-- what is asked of the world throughout -/
structure LnOk (b n : Nat) (w : World) : Prop where
  r : ∃ bad c lv r0, RdB b bad c lv r0 w
  p : Bv 38 n (pV b) w
  e : EX w
def EndL (b : Nat) (s : Sg) (X : World) (e : Ending) (W' : World) : Prop :=
  ((10 : UInt8) ∉ s.2.2.2 ∧ s.2.2.2.length < 512 ∧ e = .returned (.tuple #[]) ∧ Ex (fun k => k = b) X W' ∧ (∃ bad c lv r0, RdB b bad c lv r0 X) ∧ ∀ bad c lv r0, RdB b bad c lv r0 X → RdB b bad c lv s.2.2.2 W') ∨
  (e = gon ∧ Kept X W' ∧ run s.1 s.2.1 s.2.2.2 = (none, []))
structure LnCap (b n m : Nat) (r bs : B) (w : World) : Prop where
  r : ∃ bad c lv, RdB b bad c lv r w
  bv : ∃ v, Bv 26 m v w ∧ BRd v bs w
theorem LnCap.kept {b n m : Nat} {r bs : B} {w w' : World} (h : LnCap b n m r bs w) (k : Kept w w') : LnCap b n m r bs w' := by
  obtain ⟨⟨bad, c, lv, h1⟩, v, h2, h3⟩ := h
  exact ⟨⟨bad, c, lv, h1.kept k⟩, v, h2.kept k, h3.kept k⟩
theorem yield_any {n m : Nat} {P : Program} {l : Nat} {args : Array Value} {W : World} {R : Ending → World → Prop} (h : YieldAt Fence.wide n P l args W R) : YieldAt Fence.wide m P l args W R := by
  obtain ⟨fn, tmps, assign, body, hy, hR⟩ := h
  exact ⟨fn, tmps, assign, body, hy, hR.1, fun c cs _ => hR.2 c cs (room_wide _)⟩
theorem box_ne {b n : Nat} {bad : Bool} {c : Int} {lv v : Value} {r : B} {w : World} (h : RdB b bad c lv r w) (hp : Bv 38 n v w) : n ≠ b := fun e => by
  subst e
  unfold RdB at h
  unfold Bv at hp
  rw [h] at hp
  simp at hp
def lenV (v : Value) : Nat := match v with | .string s => s.size | _ => 0
def bitV (v : Value) : Nat := match v with | .bool true => 1 | _ => 0
theorem lenV_sV (s : B) : lenV (sV s) = s.length := List.size_toArray
theorem cut_meas (T : B) : lenV (sV (Lib.cut T [10]).1) + lenV (sV (Lib.cut T [10]).2.1) + bitV (.bool (Lib.cut T [10]).2.2) = T.length := by
  rw [lenV_sV, lenV_sV]
  rcases cut_10 T with ⟨_, h⟩ | ⟨p, t, rfl, _, h⟩
  · rw [h]; simp [bitV]
  · rw [h]; simp [bitV]; omega
set_option maxRecDepth 100000 in
set_option maxHeartbeats 8000000 in
theorem lines_itr (b n m : Nat) (r bs : B) (c0 : Int) (ls0 : List B) (hr : r.length ≤ 1000) (hbs : bs.length ≤ 900000000) :
    ItrP Tryd.prog 44 #[pV n, pV m] Nx (c0, ls0, [], r ++ bs) (fun _ => LnOk b n) (EndL b) (LnCap b n m r bs) := by
  intro nn ll J Jp W hcap hJ hOk hY h0
  have HJ := Lib.hid hJ; have HO := Lib.hid hOk; have HY := Lib.hid hY; have H0 := Lib.hid h0
  obtain ⟨⟨bad, c, lv, hR⟩, bv, hB, hBR⟩ := hcap
  obtain ⟨_, hP, hE⟩ := hOk _ _ h0
  obtain ⟨r0, r1, r2, r3, r4, r5, r6⟩ := hR.cs
  have hp := hP.c
  have hb := hB.c
  have HBR := Lib.hid hBR
  obtain ⟨ba, bc, hbv⟩ := hBR.slice
  rw [hbv] at hb HBR
  clear hbv
  have HE := Lib.hid hE
  have hlen : (r ++ bs).length ≤ 900001000 := by simp; omega
  have HCt := Lib.hid (fun w hE => cutAt_any (r ++ bs) [10] w hE (by omega))
  have hsum : ¬ 9223372036854775807 < r.length + bs.length := by omega
  have hap := str_app r bs
  clear hJ hOk hY h0 hR hP hE hB hBR r0 r1 r2 r3 r4 r5
  refine callsIn_wide.2 ((callsIn_wide (n := 5)).1 ?_)
  refine callsIn_of_wp Tryd.func44 rfl trivial ?_ rfl
  simp only [Tryd.ntmps44, List.size_toArray, List.length_cons, List.length_nil, Nat.reduceAdd, Nat.reduceSub, Array.replicate_succ, Array.replicate_zero, List.push_toArray, List.append_toArray, List.nil_append, List.cons_append]
  refine wpIn_seq_k (fun K hK => wpIn_wide.2 ?_)
  refine wp_region_held_drew (S := fun y => y.cell? ⟨n, 0, none⟩ = some (pV b) ∧ y.cell? ⟨b, 6, none⟩ = some (sV r) ∧ y.cell? ⟨m, 0, none⟩ = some (.slice ba bs.length bc) ∧ (convert 26 9 (.slice ba bs.length bc)).run Tryd.prog y = .ok (sV bs) y) (by kernel_rfl) ⟨hp, r6, hb, ?cva⟩ (fun hS0 => ?_)
  case cva =>
    have := (BRd.kept (w' := W.drew) (v := .slice ba bs.length bc) (l := bs) HBR.out ((Kept.refl W).drew)).conv
    exact this
  refine wpAnyH_take (i := 0) (oi := { dst := some 8, op := Go.Op.load 38 (Go.Operand.tmp 1), type := 38, pos := "reader.go:31", after := #[], guard := none }) (v := ?va0) rfl (by kernel_rfl) (by kernel_rfl) (by kernel_rfl) (fun _ _ _ h => h) (Or.inl ⟨by rfl, ?ya0⟩) (by assumption) ?ra0
  case ya0 => (intro wq hSw; (try dsimp only at hSw); go_simp; try with_reducible rfl)
  simp only [Act.put, List.setIfInBounds_toArray, List.set_cons_zero, List.set_cons_succ]
  refine wpAnyH_take (i := 1) (oi := { dst := some 9, op := Go.Op.nilCheck (Go.Operand.tmp 8), type := 0, pos := "reader.go:31", after := #[{ on := 0, ground := Go.Ground.data }], guard := none }) (v := ?va1) rfl (by kernel_rfl) (by kernel_rfl) (by kernel_rfl) (fun _ _ _ h => h) (Or.inl ⟨by rfl, ?ya1⟩) (by assumption) ?ra1
  case ya1 => (intro wq hSw; (try dsimp only at hSw); go_simp; try with_reducible rfl)
  simp only [Act.put, List.setIfInBounds_toArray, List.set_cons_zero, List.set_cons_succ]
  refine wpAnyH_take (i := 2) (oi := { dst := some 10, op := Go.Op.fieldAddr 59 (Go.Operand.tmp 9) 2, type := 0, pos := "reader.go:31", after := #[{ on := 1, ground := Go.Ground.data }], guard := none }) (v := ?va2) rfl (by kernel_rfl) (by kernel_rfl) (by kernel_rfl) (fun _ _ _ h => h) (Or.inl ⟨by rfl, ?ya2⟩) (by assumption) ?ra2
  case ya2 => (intro wq hSw; (try dsimp only at hSw); go_simp; try with_reducible rfl)
  simp only [Act.put, List.setIfInBounds_toArray, List.set_cons_zero, List.set_cons_succ]
  refine wpAnyH_take (i := 3) (oi := { dst := some 11, op := Go.Op.load 9 (Go.Operand.tmp 10), type := 9, pos := "reader.go:31", after := #[{ on := 2, ground := Go.Ground.data }], guard := none }) (v := ?va3) rfl (by kernel_rfl) (by kernel_rfl) (by kernel_rfl) (fun _ _ _ h => h) (Or.inl ⟨by rfl, ?ya3⟩) (by assumption) ?ra3
  case ya3 => (intro wq hSw; (try dsimp only at hSw); go_simp; try with_reducible rfl)
  simp only [Act.put, List.setIfInBounds_toArray, List.set_cons_zero, List.set_cons_succ]
  refine wpAnyH_take (i := 4) (oi := { dst := some 12, op := Go.Op.load 26 (Go.Operand.tmp 2), type := 26, pos := "reader.go:31", after := #[], guard := none }) (v := ?va4) rfl (by kernel_rfl) (by kernel_rfl) (by kernel_rfl) (fun _ _ _ h => h) (Or.inl ⟨by rfl, ?ya4⟩) (by assumption) ?ra4
  case ya4 => (intro wq hSw; (try dsimp only at hSw); go_simp; try with_reducible rfl)
  simp only [Act.put, List.setIfInBounds_toArray, List.set_cons_zero, List.set_cons_succ]
  refine wpAnyH_take (i := 5) (oi := { dst := some 13, op := Go.Op.convert 26 9 (Go.Operand.tmp 12), type := 9, pos := "reader.go:31", after := #[{ on := 4, ground := Go.Ground.data }], guard := none }) (v := ?va5) rfl (by kernel_rfl) (by kernel_rfl) (by kernel_rfl) (fun _ _ _ h => h) (Or.inl ⟨by rfl, ?ya5⟩) (by assumption) ?ra5
  case ya5 => (intro wq hSw; (try dsimp only at hSw); have hcq := hSw.2.2.2; go_simp; try with_reducible rfl)
  simp only [Act.put, List.setIfInBounds_toArray, List.set_cons_zero, List.set_cons_succ]
  refine wpAnyH_take (i := 6) (oi := { dst := some 14, op := Go.Op.binOp Go.BinOp.add 9 (Go.Operand.tmp 11) (Go.Operand.tmp 13) 9, type := 9, pos := "reader.go:31", after := #[{ on := 3, ground := Go.Ground.data }, { on := 5, ground := Go.Ground.data }], guard := none }) (v := ?va6) rfl (by kernel_rfl) (by kernel_rfl) (by kernel_rfl) (fun _ _ _ h => h) (Or.inl ⟨by rfl, ?ya6⟩) (by assumption) ?ra6
  case ya6 => (intro wq hSw; (try dsimp only at hSw); go_simp; try with_reducible rfl)
  simp only [Act.put, List.setIfInBounds_toArray, List.set_cons_zero, List.set_cons_succ]
  refine wpAnyH_ready (rs := [7]) (by kernel_rfl) (by simp) (AllReadyH.cons (o := { dst := some 15, op := Go.Op.call { callee := Go.Callee.value (Go.Operand.func 41), args := #[Go.Operand.tmp 14, Go.Operand.const (Go.Value.string { data := #[10] })], argTypes := #[9, 9] }, type := 76, pos := "reader.go:31", after := #[{ on := 6, ground := Go.Ground.data }], guard := none }) rfl (fun K hK => ?_) AllReadyH.nil)
  go_simp
  refine (HCt.out _ (HE.out.kept ((Kept.refl W).drew))).mono ?_
  rintro e w1 ⟨rfl, k1⟩
  have K1 := Lib.hid (((Kept.refl W).drew).trans k1)
  refine Shut.out hK _ _ ⟨k1.yes hS0.1, k1.yes hS0.2.1, k1.yes hS0.2.2.1, (BRd.kept (v := .slice ba bs.length bc) (l := bs) HBR.out K1.out).conv⟩ (fun hSb => ?_)
  clear hK K
  try simp only [Act.put, List.setIfInBounds_toArray, List.set_cons_zero, List.set_cons_succ]
  refine wpAnyH_take (i := 8) (oi := { dst := some 7, op := Go.Op.move (Go.Operand.tmp 15), type := 76, pos := "reader.go:31", after := #[{ on := 7, ground := Go.Ground.data }], guard := none }) (v := ?va8) rfl (by kernel_rfl) (by kernel_rfl) (by kernel_rfl) (fun _ _ _ h => h) (Or.inl ⟨by rfl, ?ya8⟩) (by assumption) ?ra8
  case ya8 => (intro wq hSw; (try dsimp only at hSw); go_simp; try with_reducible rfl)
  simp only [Act.put, List.setIfInBounds_toArray, List.set_cons_zero, List.set_cons_succ]
  refine wpAnyH_take (i := 9) (oi := { dst := some 16, op := Go.Op.extract (Go.Operand.tmp 7) 0, type := 9, pos := "reader.go:31", after := #[{ on := 8, ground := Go.Ground.data }], guard := none }) (v := ?va9) rfl (by kernel_rfl) (by kernel_rfl) (by kernel_rfl) (fun _ _ _ h => h) (Or.inl ⟨by rfl, ?ya9⟩) (by assumption) ?ra9
  case ya9 => (intro wq hSw; (try dsimp only at hSw); go_simp; try with_reducible rfl)
  simp only [Act.put, List.setIfInBounds_toArray, List.set_cons_zero, List.set_cons_succ]
  refine wpAnyH_take (i := 10) (oi := { dst := some 17, op := Go.Op.extract (Go.Operand.tmp 7) 1, type := 9, pos := "reader.go:31", after := #[{ on := 8, ground := Go.Ground.data }, { on := 12, ground := Go.Ground.gcOnly Go.Departure.lateStores }], guard := none }) (v := ?va10) rfl (by kernel_rfl) (by kernel_rfl) (by kernel_rfl) (fun _ _ _ h => h) (Or.inl ⟨by rfl, ?ya10⟩) (by assumption) ?ra10
  case ya10 => (intro wq hSw; (try dsimp only at hSw); go_simp; try with_reducible rfl)
  simp only [Act.put, List.setIfInBounds_toArray, List.set_cons_zero, List.set_cons_succ]
  refine wpAnyH_take (i := 11) (oi := { dst := some 18, op := Go.Op.extract (Go.Operand.tmp 7) 2, type := 4, pos := "reader.go:31", after := #[{ on := 8, ground := Go.Ground.data }, { on := 13, ground := Go.Ground.gcOnly Go.Departure.lateStores }], guard := none }) (v := ?va11) rfl (by kernel_rfl) (by kernel_rfl) (by kernel_rfl) (fun _ _ _ h => h) (Or.inl ⟨by rfl, ?ya11⟩) (by assumption) ?ra11
  case ya11 => (intro wq hSw; (try dsimp only at hSw); go_simp; try with_reducible rfl)
  simp only [Act.put, List.setIfInBounds_toArray, List.set_cons_zero, List.set_cons_succ]
  refine wpAnyH_take (i := 12) (oi := { dst := some 4, op := Go.Op.assign (Go.Operand.tmp 16), type := 9, pos := "reader.go:31", after := #[{ on := 9, ground := Go.Ground.data }, { on := 7, ground := Go.Ground.chain }, { on := 0, ground := Go.Ground.phase }, { on := 1, ground := Go.Ground.phase }, { on := 2, ground := Go.Ground.phase }, { on := 3, ground := Go.Ground.phase }, { on := 4, ground := Go.Ground.phase }, { on := 5, ground := Go.Ground.phase }, { on := 6, ground := Go.Ground.phase }, { on := 7, ground := Go.Ground.phase }, { on := 8, ground := Go.Ground.phase }, { on := 9, ground := Go.Ground.phase }, { on := 10, ground := Go.Ground.textOnly Go.Departure.lateStores }, { on := 11, ground := Go.Ground.textOnly Go.Departure.lateStores }], guard := none }) (v := ?va12) rfl (by kernel_rfl) (by kernel_rfl) (by kernel_rfl) (fun _ _ _ h => h) (Or.inl ⟨by rfl, ?ya12⟩) (by assumption) ?ra12
  case ya12 => (intro wq hSw; (try dsimp only at hSw); go_simp; try with_reducible rfl)
  simp only [Act.put, List.setIfInBounds_toArray, List.set_cons_zero, List.set_cons_succ]
  refine wpAnyH_take (i := 13) (oi := { dst := some 5, op := Go.Op.assign (Go.Operand.tmp 17), type := 9, pos := "reader.go:31", after := #[{ on := 10, ground := Go.Ground.data }, { on := 12, ground := Go.Ground.chain }, { on := 0, ground := Go.Ground.phase }, { on := 1, ground := Go.Ground.phase }, { on := 2, ground := Go.Ground.phase }, { on := 3, ground := Go.Ground.phase }, { on := 4, ground := Go.Ground.phase }, { on := 5, ground := Go.Ground.phase }, { on := 6, ground := Go.Ground.phase }, { on := 7, ground := Go.Ground.phase }, { on := 8, ground := Go.Ground.phase }, { on := 9, ground := Go.Ground.phase }, { on := 10, ground := Go.Ground.phase }, { on := 11, ground := Go.Ground.textOnly Go.Departure.lateStores }, { on := 12, ground := Go.Ground.phase }], guard := none }) (v := ?va13) rfl (by kernel_rfl) (by kernel_rfl) (by kernel_rfl) (fun _ _ _ h => h) (Or.inl ⟨by rfl, ?ya13⟩) (by assumption) ?ra13
  case ya13 => (intro wq hSw; (try dsimp only at hSw); go_simp; try with_reducible rfl)
  simp only [Act.put, List.setIfInBounds_toArray, List.set_cons_zero, List.set_cons_succ]
  refine wpAnyH_take (i := 14) (oi := { dst := some 6, op := Go.Op.assign (Go.Operand.tmp 18), type := 4, pos := "reader.go:31", after := #[{ on := 11, ground := Go.Ground.data }, { on := 13, ground := Go.Ground.chain }, { on := 0, ground := Go.Ground.phase }, { on := 1, ground := Go.Ground.phase }, { on := 2, ground := Go.Ground.phase }, { on := 3, ground := Go.Ground.phase }, { on := 4, ground := Go.Ground.phase }, { on := 5, ground := Go.Ground.phase }, { on := 6, ground := Go.Ground.phase }, { on := 7, ground := Go.Ground.phase }, { on := 8, ground := Go.Ground.phase }, { on := 9, ground := Go.Ground.phase }, { on := 10, ground := Go.Ground.phase }, { on := 11, ground := Go.Ground.phase }, { on := 12, ground := Go.Ground.phase }, { on := 13, ground := Go.Ground.phase }], guard := none }) (v := ?va14) rfl (by kernel_rfl) (by kernel_rfl) (by kernel_rfl) (fun _ _ _ h => h) (Or.inl ⟨by rfl, ?ya14⟩) (by assumption) ?ra14
  case ya14 => (intro wq hSw; (try dsimp only at hSw); go_simp; try with_reducible rfl)
  simp only [Act.put, List.setIfInBounds_toArray, List.set_cons_zero, List.set_cons_succ]
  refine wpAnyH_done (by kernel_rfl) ?_ _
  refine hK _ _ ?_
  have HM0 := Lib.hid (cut_meas (r ++ bs))
  have J1 := Lib.hid (HJ.out _ _ _ H0.out K1.out)
  have HR1 := Lib.hid (show run c0 ls0 (r ++ bs) = run c0 ls0 (r ++ bs) from rfl)
  clear hS0 hSb k1 K1 hp r6 hb hsum hap HCt H0 hK HBR HE
  generalize r ++ bs = T0 at *
  gi_wp2_with fail
  gi_loopw [4, 5, 6] (fun v1 v2 v3 wr => ∃ (c : Int) (ls : List B) (acc : List Rep) (T : B), T.length ≤ 900001000 ∧ v1 = sV (Lib.cut T [10]).1 ∧ v2 = sV (Lib.cut T [10]).2.1 ∧ v3 = .bool (Lib.cut T [10]).2.2 ∧ Hid (J (c, ls, acc, T) wr)) (fun v1 v2 v3 _ => lenV v1 + lenV v2 + bitV v3)
  case atStart => exact ⟨c0, ls0, [], T0, hlen, rfl, rfl, rfl, J1⟩
  case round =>
    obtain ⟨c, ls, acc, T, hT, rfl, rfl, rfl, hj⟩ := hrel
    clear J1 HM0 HR1
    have HM := Lib.hid (cut_meas T)
    obtain ⟨⟨bad1, c1, lv1, rr1, R1⟩, P1, E1⟩ := HO.out _ _ hj.out
    rcases cut_10 T with ⟨hno, hct⟩ | ⟨p, t, hTe, hno, hct⟩
    · -- the end
      rw [hct] at HM ⊢
      simp only at HM ⊢
      by_cases hl : T.length < 512
      · have hlI : (T.length : Int) < 512 := by omega
        have hsz : (ByteArray.mk T.toArray).size = T.length := List.size_toArray
        have HCl := Lib.hid (fun w => clone_any T w (by omega))
        have HNO := Lib.hid hno
        have hl2 := Lib.hid hl
        obtain ⟨r0, r1, r2, r3, r4, r5, r6⟩ := R1.cs
        have hp := P1.c
        have HR := Lib.hid R1
        have HP := Lib.hid P1
        clear R1 P1 E1 hno hct HM hl r0 r1 r2 r3 r4 r5 r6 HY hT
        gi_wp2_with fail
        refine ⟨trivial, ?_⟩
        refine (callsIn_wide.2 (need_ok _ (by first | (simp; done) | (simp; omega)) _)).mono ?_
        rintro e wy ⟨rfl, rfl⟩
        gi_upto_region 5 with (fail)
        refine wpIn_wide.2 ?_
        have K2 := Lib.hid ((Kept.refl wr).drew)
        have R2 := Lib.hid (HR.out.kept K2.out)
        have P2 := Lib.hid (HP.out.kept K2.out)
        have hnb := box_ne HR.out HP.out
        refine wp_region_held_drew (S := fun y => y.cell? ⟨n, 0, none⟩ = some (pV b)) (by kernel_rfl) hp (fun hS0 => ?_)
        generalize wr.drew = w2 at *
        refine wpAnyH_take (i := 0) (oi := { dst := some 35, op := Go.Op.load 38 (Go.Operand.tmp 1), type := 38, pos := "reader.go:39", after := #[], guard := none }) (v := ?ve0) rfl (by kernel_rfl) (by kernel_rfl) (by kernel_rfl) (fun _ _ _ h => h) (Or.inl ⟨by rfl, ?ye0⟩) (by assumption) ?re0
        case ye0 => (intro wq hSw; (try dsimp only at hSw); go_simp; try with_reducible rfl)
        simp only [Act.put, List.setIfInBounds_toArray, List.set_cons_zero, List.set_cons_succ]
        refine wpAnyH_take (i := 1) (oi := { dst := some 36, op := Go.Op.move (Go.Operand.tmp 4), type := 9, pos := "reader.go:39", after := #[], guard := none }) (v := ?ve1) rfl (by kernel_rfl) (by kernel_rfl) (by kernel_rfl) (fun _ _ _ h => h) (Or.inl ⟨by rfl, ?ye1⟩) (by assumption) ?re1
        case ye1 => (intro wq hSw; (try dsimp only at hSw); go_simp; try with_reducible rfl)
        simp only [Act.put, List.setIfInBounds_toArray, List.set_cons_zero, List.set_cons_succ]
        refine wpAnyH_ready (rs := [2]) (by kernel_rfl) (by simp) (AllReadyH.cons (o := { dst := some 37, op := Go.Op.call { callee := Go.Callee.value (Go.Operand.func 47), args := #[Go.Operand.tmp 36], argTypes := #[9] }, type := 9, pos := "reader.go:39", after := #[{ on := 1, ground := Go.Ground.data }], guard := none }) rfl (fun K hK => ?_) AllReadyH.nil)
        go_simp
        refine (HCl.out w2).mono ?_
        rintro e w3 ⟨rfl, k3⟩
        have K3 := Lib.hid (K2.out.trans k3)
        have R3 := Lib.hid (R2.out.kept k3)
        have P3 := Lib.hid (P2.out.kept k3)
        refine Shut.out hK _ _ P3.out.c (fun hSb => ?_)
        clear hK K
        try simp only [Act.put, List.setIfInBounds_toArray, List.set_cons_zero, List.set_cons_succ]
        refine wpAnyH_take (i := 3) (oi := { dst := some 38, op := Go.Op.nilCheck (Go.Operand.tmp 35), type := 0, pos := "reader.go:39", after := #[{ on := 0, ground := Go.Ground.data }, { on := 0, ground := Go.Ground.phase }, { on := 1, ground := Go.Ground.phase }, { on := 2, ground := Go.Ground.phase }], guard := none }) (v := ?ve3) rfl (by kernel_rfl) (by kernel_rfl) (by kernel_rfl) (fun _ _ _ h => h) (Or.inl ⟨by rfl, ?ye3⟩) (by assumption) ?re3
        case ye3 => (intro wq hSw; (try dsimp only at hSw); go_simp; try with_reducible rfl)
        simp only [Act.put, List.setIfInBounds_toArray, List.set_cons_zero, List.set_cons_succ]
        refine wpAnyH_take (i := 4) (oi := { dst := some 39, op := Go.Op.fieldAddr 59 (Go.Operand.tmp 38) 2, type := 0, pos := "reader.go:39", after := #[{ on := 3, ground := Go.Ground.data }, { on := 0, ground := Go.Ground.phase }, { on := 1, ground := Go.Ground.phase }, { on := 2, ground := Go.Ground.phase }], guard := none }) (v := ?ve4) rfl (by kernel_rfl) (by kernel_rfl) (by kernel_rfl) (fun _ _ _ h => h) (Or.inl ⟨by rfl, ?ye4⟩) (by assumption) ?re4
        case ye4 => (intro wq hSw; (try dsimp only at hSw); go_simp; try with_reducible rfl)
        simp only [Act.put, List.setIfInBounds_toArray, List.set_cons_zero, List.set_cons_succ]
        have d6 := R3.out.cs.2.2.2.2.2.2
        have f6 := R3.out.frz 6
        refine wpAnyH_ready (rs := [5]) (by kernel_rfl) (by simp) (AllReadyH.cons (o := { dst := none, op := Go.Op.store 9 (Go.Operand.tmp 39) (Go.Operand.tmp 37), type := 0, pos := "reader.go:39", after := #[{ on := 4, ground := Go.Ground.data }, { on := 2, ground := Go.Ground.data }, { on := 2, ground := Go.Ground.chain }, { on := 0, ground := Go.Ground.phase }, { on := 1, ground := Go.Ground.phase }, { on := 2, ground := Go.Ground.phase }], guard := none }) rfl (fun K hK => ?_) AllReadyH.nil)
        go_simp
        have P4 := Lib.hid (P3.out.other hnb 6 (sV T))
        have Z4 := Lib.hid (show EndL b (c, ls, acc, T) wr (.returned (.tuple #[])) (w3.setCell ⟨b, 6, none⟩ (sV T)) from
          Or.inl ⟨HNO.out, hl2.out, rfl, Ex.set (p := fun k => k = b) (Ex.of K3.out) rfl 6 (sV T), ⟨_, _, _, _, HR.out⟩, fun bad c lv r0 h => (h.kept K3.out).setR T⟩)
        refine Shut.out hK _ _ P4.out.c (fun hSb => ?_)
        clear hK K
        try simp only [Act.put, List.setIfInBounds_toArray, List.set_cons_zero, List.set_cons_succ]
        refine wpAnyH_done (by kernel_rfl) ?_ _
        clear hS0 hSb d6 f6 k3 hp
        gi_wp2_with fail
        go_end0
        exact Or.inl ⟨_, wr, hj.out, Z4.out⟩
      · have hZ := Lib.hid (show run c ls T = (none, []) by rw [run_none hno, if_neg hl])
        have hlI : ¬ (T.length : Int) < 512 := by omega
        have hsz : (ByteArray.mk T.toArray).size = T.length := List.size_toArray
        clear R1 P1 E1 hno hct HM HY hT
        gi_wp2_with fail
        refine ⟨trivial, ?_⟩
        refine (callsIn_wide.2 (need_not _ (by first | (simp; done) | (simp; omega)) _)).mono ?_
        rintro e wy ⟨rfl, rfl⟩
        exact ⟨rfl, Or.inl ⟨_, wr, hj.out, Or.inr ⟨rfl, Kept.refl _, hZ.out⟩⟩⟩
    · rw [hct] at HM ⊢
      simp only at HM ⊢
      have hpl : p.length ≤ T.length := by rw [hTe]; simp
      have htl : t.length < T.length := by rw [hTe]; simp; omega
      have HRL := Lib.hid (readLine_any p wr E1 (by omega))
      have HHit := Lib.hid (run_hit (c := c) (ls := ls) (t := t) hno)
      have HTe := Lib.hid hTe
      have HNO := Lib.hid hno
      clear R1 P1 hct hTe hno
      gi_wp2_with fail
      refine ⟨trivial, ?_⟩
      refine (callsIn_wide.2 HRL.out).mono ?_
      rintro e w1 ⟨k1, hd⟩
      have K1 := Lib.hid k1
      clear k1 HRL
      cases hx : rdL p with
      | none =>
        rw [hx] at hd
        simp only at hd
        subst hd
        exact ⟨rfl, Or.inl ⟨_, wr, hj.out, Or.inr ⟨rfl, K1.out, by show run c ls T = _; rw [HTe.out, HHit.out, hx]⟩⟩⟩
      | some x =>
        rw [hx] at hd
        simp only at hd
        subst hd
        have J2 := Lib.hid (HJ.out _ _ _ hj.out K1.out)
        obtain ⟨fn, tmps, assign, body, hy, hRr⟩ := yield_any (m := 4) (HY.out (c, ls, acc, T) #[lineV x] _ w1 ⟨p, t, x, HTe.out, HNO.out, hx, rfl, rfl⟩ J2.out)
        have HX := Lib.hid hx
        clear hx HHit
        gi_wp2
        refine hRr.mono ?_
        rintro e W3 (⟨s', hs, rfl, j3⟩ | ⟨ch, ho, rfl, hp⟩)
        · obtain ⟨q, hq, rfl⟩ := Option.map_eq_some_iff.1 hs
          obtain ⟨_, P3, E3⟩ := HO.out _ _ j3
          have HCt := Lib.hid (cutAt_any t [10] W3 E3 (by omega))
          have J3 := Lib.hid j3
          clear hRr hy hs hq P3 E3 j3 E1
          have HMt := Lib.hid (cut_meas t)
          have hT2 : t.length ≤ 900001000 := by omega
          have htl2 := Lib.hid htl
          clear htl hpl
          gi_wp2_with fail
          refine ⟨trivial, ?_⟩
          refine (callsIn_wide.2 HCt.out).mono ?_
          rintro e W4 ⟨rfl, k4⟩
          have J4 := Lib.hid (HJ.out _ _ _ J3.out k4)
          clear k4 J3 HCt
          gi_wp2
          exact ⟨⟨_, _, _, t, hT2, rfl, rfl, rfl, J4⟩, by rw [HMt.out, HM.out]; exact htl2.out⟩
        · clear hRr hy
          exact ⟨rfl, Or.inr ⟨ch, rfl, hp⟩⟩
end Go.Proofs.YtdfmnjoklehifaaDoor.Bk.Rp
