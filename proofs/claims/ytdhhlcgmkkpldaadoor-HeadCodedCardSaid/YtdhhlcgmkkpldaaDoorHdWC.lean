/- What is not plain is coded in words of at most 72 bytes, none of which cuts a sign in two. -/
import Derived.Test.YtdhhlcgmkkpldaaDoorHdAw
import Derived.Test.YtdhhlcgmkkpldaaDoorBxRb
import Derived.Deep.RegionHeld3
set_option linter.unusedSimpArgs false
set_option linter.unusedVariables false
namespace Go.Proofs.YtdhhlcgmkkpldaaDoor.Hd
open Go.ChangeShapes Go.WideShapes Go.ChangeAt Go.RowKit Go.Shelf
open Bx (raw)
/-- signs of two bytes -/
def sq : Nat → B
  | 0 => []
  | n + 1 => 195 :: 169 :: sq n
theorem sq_snoc : ∀ n : Nat, sq (n + 1) = sq n ++ [195, 169]
  | 0 => rfl
  | n + 1 => congrArg (fun l => 195 :: 169 :: l) (sq_snoc n)
theorem sq_len : ∀ n : Nat, (sq n).length = 2 * n
  | 0 => rfl
  | n + 1 => by rw [sq, List.length_cons, List.length_cons, sq_len n]; omega
def txt (a n : Nat) : B := List.replicate a 97 ++ sq n
theorem txt_succ (a n : Nat) : txt (a + 1) n = 97 :: txt a n := by unfold txt; rw [List.replicate_succ]; rfl
theorem txt_zero (n : Nat) : txt 0 n = sq n := rfl
theorem txt_len (a n : Nat) : (txt a n).length = a + 2 * n := by unfold txt; rw [List.length_append, List.length_replicate, sq_len]
/-- whole signs -/
def Gd (t : B) : Prop := ∃ a n, t = txt a n
theorem gd_cut : ∀ (k a n : Nat), (txt a n).getD k 0 ≠ 169 → Gd ((txt a n).drop k)
  | 0, a, n, _ => ⟨a, n, rfl⟩
  | k + 1, a + 1, n, h => by
    rw [txt_succ] at h ⊢
    exact gd_cut k a n (by simpa using h)
  | 1, 0, n + 1, h => absurd rfl h
  | k + 1, 0, 0, h => ⟨0, 0, by simp [txt, sq]⟩
  | k + 2, 0, n + 1, h => by
    rw [txt_zero, sq] at h ⊢
    rw [← txt_zero] at h ⊢
    exact gd_cut k 0 n (by simpa using h)
theorem gd_next : ∀ (k a n : Nat), cont ((txt a n).getD (k + 1) 0) = true → cont ((txt a n).getD k 0) = false
  | 0, a + 1, n, _ => by rw [txt_succ]; rfl
  | 0, 0, 0, h => by cases h
  | 0, 0, n + 1, _ => rfl
  | k + 1, a + 1, n, h => by
    rw [txt_succ] at h ⊢
    exact gd_next k a n (by simpa using h)
  | k + 1, 0, 0, h => by simp [txt, sq, cont] at h
  | 1, 0, n + 1, h => by
    rw [txt_zero, sq] at h
    have : cont ((sq n).getD 0 0) = false := by cases n <;> rfl
    have h' : cont ((sq n).getD 0 0) = true := by simpa using h
    rw [this] at h'; cases h'
  | k + 2, 0, n + 1, h => by
    rw [txt_zero, sq] at h ⊢
    rw [← txt_zero] at h ⊢
    exact gd_next k 0 n (by simpa using h)
theorem not_169 {c : UInt8} (h : cont c = false) : c ≠ 169 := by rintro rfl; cases h
theorem gd_drop {t : B} (h : Gd t) : Gd (t.drop (prt t)) := by
  obtain ⟨a, n, rfl⟩ := h
  unfold prt
  split
  · rw [List.drop_eq_nil_of_le (Nat.le_refl _)]; exact ⟨0, 0, rfl⟩
  split
  · rename_i h; exact gd_cut _ a n (not_169 h)
  split
  · rename_i h; exact gd_cut _ a n (not_169 h)
  · rename_i h1 h2
    exact absurd (gd_next 44 a n (by simpa using h1)) h2
theorem gd_head {t : B} (h : Gd t) {b : UInt8} (hb : t[0]? = some b) : b ≠ 169 := by
  obtain ⟨a, n, rfl⟩ := h
  cases a with
  | succ a => rw [txt_succ] at hb; simp at hb; subst hb; decide
  | zero =>
    cases n with
    | zero => simp [txt, sq] at hb
    | succ n => rw [txt_zero, sq] at hb; simp at hb; subst hb; decide
theorem txt_wds (a n : Nat) (hn : 1 ≤ n) : wds (txt a n) = cod (txt a n) := by
  have hp : pln (txt a n) = false := by
    have : (txt a n).all rng = false := by
      refine List.all_eq_false.2 ⟨195, ?_, by decide⟩
      unfold txt
      obtain ⟨n, rfl⟩ : ∃ m, n = m + 1 := ⟨n - 1, by omega⟩
      rw [sq]; simp
    unfold pln
    rw [this]; rfl
  unfold wds
  rw [hp, if_neg (by decide)]
structure CoI (s r : B) (ws : List B) (i k : Nat) : Prop where
  gd : Gd r
  dr : ws.drop i = cod r
  ln : k + r.length = s.length
  sd : s.drop k = r
theorem co_step {s r : B} {ws : List B} {i k : Nat} (h : CoI s r ws i k) (hi : i < ws.length) : r ≠ [] ∧ ws[i]? = some (code (r.take (prt r))) ∧ CoI s (r.drop (prt r)) ws (i + 1) (k + prt r) := by
  have hd := h.dr
  have hr : r ≠ [] := by
    rintro rfl
    rw [cod_nil, List.drop_eq_nil_iff] at hd
    omega
  rw [cod_more hr, List.drop_eq_getElem_cons hi] at hd
  injection hd with h1 h2
  have hp := prt_le r
  refine ⟨hr, by rw [List.getElem?_eq_getElem hi, h1], gd_drop h.gd, h2, ?_, ?_⟩
  · have := h.ln; rw [List.length_drop]; omega
  · rw [← h.sd, List.drop_drop]
theorem co_done {s r : B} {ws : List B} {i k : Nat} (h : CoI s r ws i k) (hi : ws.length ≤ i) : k = s.length := by
  have hd := h.dr
  rw [List.drop_eq_nil_of_le hi] at hd
  by_cases hr : r = []
  · have := h.ln; rw [hr] at this; simpa using this
  · rw [cod_more hr] at hd; cases hd
theorem cut_both' (l : List UInt8) (x y : Int) (a b : Nat) (hx : x = a) (hy : y = b) (h1 : a ≤ b) (h2 : b ≤ l.length) (W : World) :
    (Instr.slice 9 (.string ⟨l.toArray⟩) (some (.int .i64 x)) (some (.int .i64 y)) none).run Tryd.prog W = .ok (.string ⟨((l.take b).drop a).toArray⟩) W := by
  subst hx hy
  exact cut_both l a b h1 h2 W
theorem code_mid (p : B) : ((code p).take ((code p).length - 2)).drop 10 = raw p := by
  unfold code
  have h1 : (opn ++ (raw p ++ cls)).length - 2 = (opn ++ raw p).length := by simp [cls]; omega
  rw [h1, ← List.append_assoc, List.take_left]
  exact List.drop_left' rfl
theorem code_len2 (p : B) : (code p).length = 12 + (p.length + 2) / 3 * 4 := by
  unfold code
  rw [List.length_append, List.length_append, Bx.raw_len]
  simp only [opn, cls, List.length_cons, List.length_nil]; omega
set_option maxRecDepth 100000 in
set_option maxHeartbeats 8000000 in
theorem coded14_walk (a m : Int) (w : World) (la : -9223372036854775808 ≤ a) (ua : a ≤ 9223372036854775807) (lm : -9223372036854775808 ≤ m) (um : m ≤ 9223372036854775807) (hE : Env w) :
    Calls Tryd.prog 7 #[.int .i64 a, .int .i64 m] w fun e w' => e = .returned (.bool true) ∧ Kept w w' := by
  have HE := Lib.hid hE
  clear hE
  go_enter Tryd.func7, Tryd.ntmps7
  go_wp2_with fail
  refine (awake14_any _ HE.out).mono ?_
  rintro e x1 ⟨rfl, k1⟩
  have K1 := Lib.hid k1
  clear k1
  by_cases h1 : a < 0
  · go_wp2
    go_ret
    exact ⟨rfl, K1.out⟩
  by_cases h2 : 50 < a
  · go_wp2
    go_ret
    exact ⟨rfl, K1.out⟩
  by_cases h3 : m < 1
  · go_wp2
    go_ret
    exact ⟨rfl, K1.out⟩
  by_cases h4 : 100 < m
  · go_wp2
    go_ret
    exact ⟨rfl, K1.out⟩
  obtain ⟨A, rfl⟩ : ∃ A : Nat, a = A := ⟨a.toNat, by omega⟩
  obtain ⟨M, rfl⟩ : ∃ M : Nat, m = M := ⟨m.toNat, by omega⟩
  have hA : A ≤ 50 := by omega
  have hM : M ≤ 100 := by omega
  have hM1 : 1 ≤ M := by omega
  clear la ua lm um
  go_wp2_with fail
  clear h1 h2 h3 h4
  go_loopw [6, 7] (fun vs vi wr => ∃ i : Nat, i ≤ A ∧ vs = sV (List.replicate i 97) ∧ vi = .int .i64 i ∧ Hid (wr = x1)) (fun _ vi _ => A - (intOf vi).toNat)
  case atStart => exact ⟨0, Nat.zero_le _, rfl, rfl, Lib.hid rfl⟩
  case round =>
    obtain ⟨i, hi, rfl, rfl, hW⟩ := hrel
    obtain rfl := hW.out.symm
    clear hW
    by_cases hlt : i < A
    · have hltI : (i : Int) < A := by omega
      have happ : (⟨(List.replicate i (97 : UInt8)).toArray⟩ ++ ⟨#[97]⟩ : ByteArray) = ⟨(List.replicate i (97 : UInt8) ++ [97]).toArray⟩ := app_mk _ [97]
      have HN := Lib.hid (show List.replicate (i + 1) (97 : UInt8) = List.replicate i 97 ++ [97] from List.replicate_succ')
      have hPl : (List.replicate i (97 : UInt8)).length ≤ 50 := by rw [List.length_replicate]; omega
      generalize List.replicate i (97 : UInt8) = P at *
      generalize hP2 : P ++ [97] = P2 at *
      go_wp2_with fail
      go_roundw
      case rel => exact ⟨i + 1, hlt, by rw [HN.out], by go_num, Lib.hid trivial⟩
      case measure => simp [intOf]; omega
    · have hltI : ¬ (i : Int) < A := by omega
      obtain rfl : i = A := by omega
      have HT := Lib.hid (show List.replicate i (97 : UInt8) = txt i 0 by unfold txt; simp [sq])
      generalize List.replicate i (97 : UInt8) = P at *
      go_wp2_with fail
      go_loopw [6, 8] (fun vs vi wr => ∃ j : Nat, j ≤ M ∧ vs = sV (txt i j) ∧ vi = .int .i64 j ∧ Hid (wr = x1)) (fun _ vi _ => M - (intOf vi).toNat)
      case atStart => exact ⟨0, Nat.zero_le _, by rw [HT.out], rfl, Lib.hid rfl⟩
      case round =>
        clear HT
        obtain ⟨j, hj, rfl, rfl, hW⟩ := hrel
        obtain rfl := hW.out.symm
        clear hW
        by_cases hlt : j < M
        · have hltJ : (j : Int) < M := by omega
          have happ : (⟨(txt i j).toArray⟩ ++ ⟨#[195, 169]⟩ : ByteArray) = ⟨(txt i j ++ [195, 169]).toArray⟩ := app_mk _ [195, 169]
          have HN := Lib.hid (show txt i (j + 1) = txt i j ++ [195, 169] by unfold txt; rw [sq_snoc, List.append_assoc])
          have hPl : (txt i j).length ≤ 300 := by rw [txt_len]; omega
          generalize txt i j = P at *
          generalize hP2 : P ++ [195, 169] = P2 at *
          go_wp2_with fail
          go_roundw
          case rel => exact ⟨j + 1, hlt, by rw [HN.out], by go_num, Lib.hid trivial⟩
          case measure => simp [intOf]; omega
        · have hltJ : ¬ (j : Int) < M := by omega
          obtain rfl : j = M := by omega
          have hsl : (txt i j).length ≤ 300 := by rw [txt_len]; omega
          have HW := Lib.hid (txt_wds i j hM1)
          have HG := Lib.hid (show Gd (txt i j) from ⟨i, j, rfl⟩)
          have hcl := (sumW_len (wds (txt i j))).1
          have hcs := sumW_wds (txt i j)
          have hwl : (wds (txt i j)).length ≤ 10000 := by omega
          have HA := Lib.hid (fun w hE => allWords_any (txt i j) w hE (by omega))
          clear hcl hcs
          generalize txt i j = s at *
          have hss : (ByteArray.mk s.toArray).size = s.length := List.size_toArray
          go_wp2_with fail
          refine (HA.out _ (HE.out.kept K1.out)).mono ?_
          rintro e x2 ⟨v, rfl, hO, k2⟩
          have HD := Lib.hid (show wds s = cod s from HW.out)
          generalize wds s = ws at *
          obtain ⟨va, vc, hvv⟩ := own_slice hO
          subst hvv
          have K2 := Lib.hid (K1.out.trans k2)
          have R2 := Lib.hid (OwnS.rd hO)
          clear k2 hO K1 HA HW
          go_wp2_with fail
          go_loopw [10, 11, 12, 13] (fun vk vi _ _ wr => ∃ (l k : Nat) (r : B), l ≤ ws.length ∧ k ≤ s.length ∧ vk = .int .i64 k ∧ vi = .int .i64 l ∧ Hid (CoI s r ws l k) ∧ Hid (Kept w wr) ∧ Hid (SRd (.slice va ws.length vc) ws wr)) (fun _ vi _ _ _ => ws.length - (intOf vi).toNat)
          case atStart => exact ⟨0, 0, s, Nat.zero_le _, Nat.zero_le _, rfl, rfl, Lib.hid ⟨HG.out, HD.out, by omega, rfl⟩, K2, R2⟩
          case round =>
            clear HG HD K2 R2
            obtain ⟨l, k, r, hl, hk, rfl, rfl, hC, hK, hR⟩ := hrel
            by_cases hlw : l < ws.length
            · have hlwI : (l : Int) < ws.length := by omega
              obtain ⟨hr, hx, hC'⟩ := co_step hC.out hlw
              have HC := Lib.hid hC'
              have hp1 := prt_pos hr
              have hp2 := prt_45 r
              have hpl : (r.take (prt r)).length = prt r := by rw [List.length_take]; have := prt_le r; omega
              have hkl : k + prt r ≤ s.length := by have := hC'.ln; omega
              have HB := Lib.hid (fun b (hb : s[k + prt r]? = some b) => gd_head hC'.gd (show (r.drop (prt r))[0]? = some b by rw [← hC'.sd, List.getElem?_drop]; exact hb))
              have hcut := code_mid (r.take (prt r))
              have hcl := code_len2 (r.take (prt r))
              have hrl := Bx.raw_len (r.take (prt r))
              have HY := Lib.hid (Bx.byt_raw (r.take (prt r)))
              rw [hpl] at hcl hrl
              have htl : (code (r.take (prt r))).length ≤ 72 ∧ 12 ≤ (code (r.take (prt r))).length := by omega
              have hrl2 : (raw (r.take (prt r))).length ≤ 100 := by omega
              obtain ⟨g, o, c, hv', hcp, cell⟩ := hR.out.at hx
              injection hv' with ea _ ec
              subst ea ec
              clear hx hC' hC hcl hrl
              generalize hpq : prt r = q at *
              generalize r.drop q = r2 at *
              generalize r.take q = p at *
              generalize raw p = y at *
              generalize code p = tw at *
              have hcb := fun W => cut_both' tw 10 ((tw.length : Int) - 2) 10 (tw.length - 2) rfl (by omega) (by omega) (by omega) W
              rw [hcut] at hcb
              have hts : (ByteArray.mk tw.toArray).size = tw.length := List.size_toArray
              have t1 : ¬ (tw.length : Int) < 12 := by omega
              have t2 : ¬ 72 < (tw.length : Int) := by omega
              have hwr : IntKind.i64.wrap ((tw.length : Int) - 2) = (tw.length : Int) - 2 := by simp only [IntKind.wrap_i64]; omega
              have HBy := Lib.hid (fun w => rbytes_any y w (by omega))
              clear hcut hpq
              go_upto_region 20 with (fail)
              refine wp_region_held_drew (S := (fun y => y.cell? ⟨g, o + l, none⟩ = some (sV tw))) (by kernel_rfl) cell (fun hS0 => ?_)
              have KD := Lib.hid (hK.out.trans (Kept.refl wr).drew)
              have RD := Lib.hid (hR.out.kept (Kept.refl wr).drew)
              clear hK hR cell
              generalize wr.drew = x6 at *
              refine wpAnyH_take (i := 0) (oi := { dst := some 71, op := Go.Op.move (Go.Operand.tmp 9), type := 32, pos := "law.go:156", after := #[], guard := none }) (v := ?vc0) rfl (by kernel_rfl) (by kernel_rfl) (by kernel_rfl) (fun _ _ _ h => h) (Or.inl ⟨by rfl, ?yc0⟩) (by assumption) ?rc0
              case yc0 => (intro wq hSw; (try dsimp only at hSw); go_simp; try with_reducible rfl)
              simp only [Act.put, List.setIfInBounds_toArray, List.set_cons_zero, List.set_cons_succ]
              refine wpAnyH_take (i := 1) (oi := { dst := some 72, op := Go.Op.move (Go.Operand.tmp 11), type := 3, pos := "law.go:156", after := #[], guard := none }) (v := ?vc1) rfl (by kernel_rfl) (by kernel_rfl) (by kernel_rfl) (fun _ _ _ h => h) (Or.inl ⟨by rfl, ?yc1⟩) (by assumption) ?rc1
              case yc1 => (intro wq hSw; (try dsimp only at hSw); go_simp; try with_reducible rfl)
              simp only [Act.put, List.setIfInBounds_toArray, List.set_cons_zero, List.set_cons_succ]
              refine wpAnyH_take (i := 2) (oi := { dst := some 73, op := Go.Op.indexAddr 32 (Go.Operand.tmp 71) (Go.Operand.tmp 72), type := 0, pos := "law.go:156", after := #[{ on := 0, ground := Go.Ground.data }, { on := 1, ground := Go.Ground.data }], guard := none }) (v := ?vc2) rfl (by kernel_rfl) (by kernel_rfl) (by kernel_rfl) (fun _ _ _ h => h) (Or.inl ⟨by rfl, ?yc2⟩) (by assumption) ?rc2
              case yc2 => (intro wq hSw; (try dsimp only at hSw); go_simp; try with_reducible rfl)
              simp only [Act.put, List.setIfInBounds_toArray, List.set_cons_zero, List.set_cons_succ]
              refine wpAnyH_take (i := 3) (oi := { dst := some 74, op := Go.Op.load 9 (Go.Operand.tmp 73), type := 9, pos := "law.go:156", after := #[{ on := 2, ground := Go.Ground.data }], guard := none }) (v := ?vc3) rfl (by kernel_rfl) (by kernel_rfl) (by kernel_rfl) (fun _ _ _ h => h) (Or.inl ⟨by rfl, ?yc3⟩) (by assumption) ?rc3
              case yc3 => (intro wq hSw; (try dsimp only at hSw); go_simp; try with_reducible rfl)
              simp only [Act.put, List.setIfInBounds_toArray, List.set_cons_zero, List.set_cons_succ]
              refine wpAnyH_take (i := 4) (oi := { dst := some 75, op := Go.Op.move (Go.Operand.tmp 9), type := 32, pos := "law.go:156", after := #[], guard := none }) (v := ?vc4) rfl (by kernel_rfl) (by kernel_rfl) (by kernel_rfl) (fun _ _ _ h => h) (Or.inl ⟨by rfl, ?yc4⟩) (by assumption) ?rc4
              case yc4 => (intro wq hSw; (try dsimp only at hSw); go_simp; try with_reducible rfl)
              simp only [Act.put, List.setIfInBounds_toArray, List.set_cons_zero, List.set_cons_succ]
              refine wpAnyH_take (i := 5) (oi := { dst := some 76, op := Go.Op.move (Go.Operand.tmp 11), type := 3, pos := "law.go:156", after := #[], guard := none }) (v := ?vc5) rfl (by kernel_rfl) (by kernel_rfl) (by kernel_rfl) (fun _ _ _ h => h) (Or.inl ⟨by rfl, ?yc5⟩) (by assumption) ?rc5
              case yc5 => (intro wq hSw; (try dsimp only at hSw); go_simp; try with_reducible rfl)
              simp only [Act.put, List.setIfInBounds_toArray, List.set_cons_zero, List.set_cons_succ]
              refine wpAnyH_take (i := 6) (oi := { dst := some 77, op := Go.Op.indexAddr 32 (Go.Operand.tmp 75) (Go.Operand.tmp 76), type := 0, pos := "law.go:156", after := #[{ on := 4, ground := Go.Ground.data }, { on := 5, ground := Go.Ground.data }], guard := none }) (v := ?vc6) rfl (by kernel_rfl) (by kernel_rfl) (by kernel_rfl) (fun _ _ _ h => h) (Or.inl ⟨by rfl, ?yc6⟩) (by assumption) ?rc6
              case yc6 => (intro wq hSw; (try dsimp only at hSw); go_simp; try with_reducible rfl)
              simp only [Act.put, List.setIfInBounds_toArray, List.set_cons_zero, List.set_cons_succ]
              refine wpAnyH_take (i := 7) (oi := { dst := some 78, op := Go.Op.load 9 (Go.Operand.tmp 77), type := 9, pos := "law.go:156", after := #[{ on := 6, ground := Go.Ground.data }], guard := none }) (v := ?vc7) rfl (by kernel_rfl) (by kernel_rfl) (by kernel_rfl) (fun _ _ _ h => h) (Or.inl ⟨by rfl, ?yc7⟩) (by assumption) ?rc7
              case yc7 => (intro wq hSw; (try dsimp only at hSw); go_simp; try with_reducible rfl)
              simp only [Act.put, List.setIfInBounds_toArray, List.set_cons_zero, List.set_cons_succ]
              refine wpAnyH_take (i := 8) (oi := { dst := some 79, op := Go.Op.call { callee := Go.Callee.builtin Go.Builtin.len, args := #[Go.Operand.tmp 78], argTypes := #[9] }, type := 3, pos := "law.go:156", after := #[{ on := 7, ground := Go.Ground.data }], guard := none }) (v := ?vc8) rfl (by kernel_rfl) (by kernel_rfl) (by kernel_rfl) (fun _ _ _ h => h) (Or.inl ⟨by rfl, ?yc8⟩) (by assumption) ?rc8
              case yc8 => (intro wq hSw; (try dsimp only at hSw); go_simp; try with_reducible rfl)
              simp only [Act.put, List.setIfInBounds_toArray, List.set_cons_zero, List.set_cons_succ]
              refine wpAnyH_take (i := 9) (oi := { dst := some 80, op := Go.Op.binOp Go.BinOp.sub 3 (Go.Operand.tmp 79) (Go.Operand.const (Go.Value.int Go.IntKind.i64 2)) 3, type := 3, pos := "law.go:156", after := #[{ on := 8, ground := Go.Ground.data }], guard := none }) (v := ?vc9) rfl (by kernel_rfl) (by kernel_rfl) (by kernel_rfl) (fun _ _ _ h => h) (Or.inl ⟨by rfl, ?yc9⟩) (by assumption) ?rc9
              case yc9 => (intro wq hSw; (try dsimp only at hSw); go_simp; try with_reducible rfl)
              simp only [Act.put, List.setIfInBounds_toArray, List.set_cons_zero, List.set_cons_succ]
              refine wpAnyH_take (i := 10) (oi := { dst := some 81, op := Go.Op.slice 9 (Go.Operand.tmp 74) (some (Go.Operand.const (Go.Value.int Go.IntKind.i64 10))) (some (Go.Operand.tmp 80)) none, type := 9, pos := "law.go:156", after := #[{ on := 3, ground := Go.Ground.data }, { on := 9, ground := Go.Ground.data }], guard := none }) (v := ?vc10) rfl (by kernel_rfl) (by kernel_rfl) (by kernel_rfl) (fun _ _ _ h => h) (Or.inl ⟨by rfl, ?yc10⟩) (by assumption) ?rc10
              case yc10 => (intro wq hSw; (try dsimp only at hSw); go_simp; try with_reducible rfl)
              simp only [Act.put, List.setIfInBounds_toArray, List.set_cons_zero, List.set_cons_succ]
              refine wpAnyH_ready (rs := [11]) (by kernel_rfl) (by simp) (AllReadyH.cons (o := { dst := some 82, op := Go.Op.call { callee := Go.Callee.value (Go.Operand.func 22), args := #[Go.Operand.tmp 81], argTypes := #[9] }, type := 29, pos := "law.go:156", after := #[{ on := 10, ground := Go.Ground.data }], guard := none }) rfl (fun K hK => ?_) AllReadyH.nil)
              go_simp
              refine (HBy.out _).mono ?_
              rintro e x7 ⟨_, rfl, ⟨xv, hxo, rfl⟩, k7⟩
              rw [HY.out, Option.getD_some] at hxo
              rw [bE_some HY.out]
              obtain ⟨ba, bc, hbv⟩ := own_slice hxo
              subst hbv
              have K7 := Lib.hid (KD.out.trans k7)
              have R7 := Lib.hid (RD.out.kept k7)
              refine Shut.out hK _ _ (k7.yes hS0) (fun hSb => ?_)
              clear hK K
              try simp only [Act.put, List.setIfInBounds_toArray, List.set_cons_zero, List.set_cons_succ]
              clear k7 hxo KD RD HBy HY
              refine wpAnyH_take (i := 12) (oi := { dst := some 70, op := Go.Op.move (Go.Operand.tmp 82), type := 29, pos := "law.go:156", after := #[{ on := 11, ground := Go.Ground.data }], guard := none }) (v := ?vc12) rfl (by kernel_rfl) (by kernel_rfl) (by kernel_rfl) (fun _ _ _ h => h) (Or.inl ⟨by rfl, ?yc12⟩) (by assumption) ?rc12
              case yc12 => (intro wq hSw; (try dsimp only at hSw); go_simp; try with_reducible rfl)
              simp only [Act.put, List.setIfInBounds_toArray, List.set_cons_zero, List.set_cons_succ]
              refine wpAnyH_take (i := 13) (oi := { dst := some 83, op := Go.Op.extract (Go.Operand.tmp 70) 0, type := 27, pos := "law.go:156", after := #[{ on := 12, ground := Go.Ground.data }], guard := none }) (v := ?vc13) rfl (by kernel_rfl) (by kernel_rfl) (by kernel_rfl) (fun _ _ _ h => h) (Or.inl ⟨by rfl, ?yc13⟩) (by assumption) ?rc13
              case yc13 => (intro wq hSw; (try dsimp only at hSw); go_simp; try with_reducible rfl)
              simp only [Act.put, List.setIfInBounds_toArray, List.set_cons_zero, List.set_cons_succ]
              refine wpAnyH_take (i := 15) (oi := { dst := some 12, op := Go.Op.assign (Go.Operand.tmp 83), type := 27, pos := "law.go:156", after := #[{ on := 13, ground := Go.Ground.data }, { on := 11, ground := Go.Ground.chain }, { on := 0, ground := Go.Ground.phase }, { on := 1, ground := Go.Ground.phase }, { on := 2, ground := Go.Ground.phase }, { on := 3, ground := Go.Ground.phase }, { on := 4, ground := Go.Ground.phase }, { on := 5, ground := Go.Ground.phase }, { on := 6, ground := Go.Ground.phase }, { on := 7, ground := Go.Ground.phase }, { on := 8, ground := Go.Ground.phase }, { on := 9, ground := Go.Ground.phase }, { on := 10, ground := Go.Ground.phase }, { on := 11, ground := Go.Ground.phase }, { on := 12, ground := Go.Ground.phase }, { on := 13, ground := Go.Ground.phase }, { on := 14, ground := Go.Ground.textOnly Go.Departure.lateStores }], guard := none }) (v := ?vc15) rfl (by kernel_rfl) (by kernel_rfl) (by kernel_rfl) (fun _ _ _ h => h) (Or.inl ⟨by rfl, ?yc15⟩) (by assumption) ?rc15
              case yc15 => (intro wq hSw; (try dsimp only at hSw); go_simp; try with_reducible rfl)
              simp only [Act.put, List.setIfInBounds_toArray, List.set_cons_zero, List.set_cons_succ]
              refine wpAnyH_take (i := 14) (oi := { dst := some 84, op := Go.Op.extract (Go.Operand.tmp 70) 1, type := 28, pos := "law.go:156", after := #[{ on := 12, ground := Go.Ground.data }, { on := 15, ground := Go.Ground.gcOnly Go.Departure.lateStores }], guard := none }) (v := ?vc14) rfl (by kernel_rfl) (by kernel_rfl) (by kernel_rfl) (fun _ _ _ h => h) (Or.inl ⟨by rfl, ?yc14⟩) (by assumption) ?rc14
              case yc14 => (intro wq hSw; (try dsimp only at hSw); go_simp; try with_reducible rfl)
              simp only [Act.put, List.setIfInBounds_toArray, List.set_cons_zero, List.set_cons_succ]
              refine wpAnyH_take (i := 16) (oi := { dst := some 13, op := Go.Op.assign (Go.Operand.tmp 84), type := 28, pos := "law.go:156", after := #[{ on := 14, ground := Go.Ground.data }, { on := 15, ground := Go.Ground.chain }, { on := 0, ground := Go.Ground.phase }, { on := 1, ground := Go.Ground.phase }, { on := 2, ground := Go.Ground.phase }, { on := 3, ground := Go.Ground.phase }, { on := 4, ground := Go.Ground.phase }, { on := 5, ground := Go.Ground.phase }, { on := 6, ground := Go.Ground.phase }, { on := 7, ground := Go.Ground.phase }, { on := 8, ground := Go.Ground.phase }, { on := 9, ground := Go.Ground.phase }, { on := 10, ground := Go.Ground.phase }, { on := 11, ground := Go.Ground.phase }, { on := 12, ground := Go.Ground.phase }, { on := 13, ground := Go.Ground.phase }, { on := 14, ground := Go.Ground.phase }, { on := 15, ground := Go.Ground.phase }], guard := none }) (v := ?vc16) rfl (by kernel_rfl) (by kernel_rfl) (by kernel_rfl) (fun _ _ _ h => h) (Or.inl ⟨by rfl, ?yc16⟩) (by assumption) ?rc16
              case yc16 => (intro wq hSw; (try dsimp only at hSw); go_simp; try with_reducible rfl)
              simp only [Act.put, List.setIfInBounds_toArray, List.set_cons_zero, List.set_cons_succ]
              refine wpAnyH_done (by kernel_rfl) ?_ _
              have hp0 : ((q : Int) == 0) = false := beq_eq_false_iff_ne.2 (by omega)
              by_cases hzl : k + q < s.length
              · obtain ⟨b, hb⟩ : ∃ b, s[k + q]? = some b := ⟨_, List.getElem?_eq_getElem hzl⟩
                have hat := byte_at s (k + q) b hb
                have hzlI : (k : Int) + q < s.length := by omega
                have hb9 : ((b.toNat : Int) == 169) = false := beq_eq_false_iff_ne.2 (fun e => HB.out b hb (UInt8.toNat_inj.1 (show b.toNat = 169 by omega)))
                clear hb HB hcb
                go_wp2_with fail
                go_roundw
                case rel => exact ⟨l + 1, k + q, r2, hlw, hkl, by go_num, by go_num, HC, K7, R7⟩
                case measure => simp [intOf]; omega
              · have hzlI : ¬ (k : Int) + q < s.length := by omega
                clear HB hcb
                go_wp2_with fail
                go_roundw
                case rel => exact ⟨l + 1, k + q, r2, hlw, hkl, by go_num, by go_num, HC, K7, R7⟩
                case measure => simp [intOf]; omega
            · have hlwI : ¬ (l : Int) < ws.length := by omega
              have HZ := Lib.hid (co_done hC.out (by omega))
              obtain rfl := HZ.out
              clear hC HZ
              go_wp2_with fail
              go_ret
              exact ⟨rfl, hK.out⟩
end Go.Proofs.YtdhhlcgmkkpldaaDoor.Hd
namespace Go.Proofs.YtdhhlcgmkkpldaaDoor
theorem i64_bd {n : Int} (h : (Lit.int .i64 n).wf = true) : -9223372036854775808 ≤ n ∧ n ≤ 9223372036854775807 := by
  simpa [Lit.wf, IntKind.min, IntKind.max, IntKind.signed, IntKind.bits] using h
end Go.Proofs.YtdhhlcgmkkpldaaDoor
