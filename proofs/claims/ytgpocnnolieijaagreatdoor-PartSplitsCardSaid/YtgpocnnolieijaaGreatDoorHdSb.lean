/- The document's answer for package head: Read. -/
import Derived.Test.YtgpocnnolieijaaGreatDoorHdSa
import Derived.Deep.RegionHeld3
set_option linter.unusedSimpArgs false
set_option linter.unusedVariables false
namespace Go.Proofs.YtgpocnnolieijaaGreatDoor.Hd
open Go.ChangeShapes Go.WideShapes Go.ChangeAt Go.RowKit Go.Shelf
theorem drop_at {l : B} {i : Nat} {x : UInt8} (h : l[i]? = some x) : l.drop i = x :: l.drop (i + 1) := by
  obtain ⟨hi, rfl⟩ := List.getElem?_eq_some_iff.1 h
  exact List.drop_eq_getElem_cons hi
theorem gue58 {l : B} {i : Nat} (h : l[i]? = some 58) (hn : (58 : UInt8) ∉ l.take i) : gueR l = some (l.take i, val (tok [] (l.drop (i + 1)))) := by
  have e : l.take i ++ 58 :: l.drop (i + 1) = l := by rw [← drop_at h, List.take_append_drop]
  have h1 := tw_app (l.take i) (l.drop (i + 1)) hn
  rw [e] at h1
  have hi := (List.getElem?_eq_some_iff.1 h).1
  unfold gueR
  rw [if_pos (List.mem_of_getElem? h), h1, List.length_take, Nat.min_eq_left (by omega)]
theorem red_no58 {l : B} (h : (58 : UInt8) ∉ l) : red l = none := by
  rw [red_R]
  unfold gueR
  rw [if_neg h]
theorem red_gue {l : B} {g : Hdr} (h : gueR l = some g) : red l = if line g = some l then some g else none := by
  rw [red_R, h]
theorem tok_s {l cur : B} {k : Nat} {x : UInt8} (h : l[k]? = some x) (hs : stop x = true) (hc : cur ≠ []) : tok cur (l.drop k) = cur :: tok [] (l.drop (k + 1)) := by rw [drop_at h, tok_stop hs, if_neg hc]
theorem tok_0 {l : B} {k : Nat} {x : UInt8} (h : l[k]? = some x) (hs : stop x = true) : tok [] (l.drop k) = tok [] (l.drop (k + 1)) := by rw [drop_at h, tok_nil hs]
theorem tok_m {l cur : B} {k : Nat} {x : UInt8} (h : l[k]? = some x) (hs : stop x = false) : tok cur (l.drop k) = tok (cur ++ [x]) (l.drop (k + 1)) := by
  rw [drop_at h, tok, hs, if_neg (by decide)]
theorem sumW_app : ∀ (a : List B) (t : B), sumW (a ++ [t]) = sumW a + (t.length + 3)
  | [], t => by simp [sumW]
  | w :: a, t => by rw [List.cons_append, sumW, sumW, sumW_app a t]; omega
theorem partsW : ∀ (ws : List B) (D : B), parts ws = some D → D.length ≤ sumW ws
  | [], D, h => by cases h; simp
  | w :: ws, D, h => by
    rw [parts] at h
    cases hd : decW w with
    | none => rw [hd] at h; cases h
    | some p =>
      rw [hd] at h
      simp only [Option.map_eq_some_iff] at h
      obtain ⟨D', h1, rfl⟩ := h
      have := partsW ws D' h1
      have := decW_len hd
      rw [sumW, List.length_append]
      omega
theorem stop_no {x : UInt8} (h1 : ¬ (x.toNat : Int) = 32) (h2 : ¬ (x.toNat : Int) = 13) (h3 : ¬ (x.toNat : Int) = 10) : stop x = false := by
  unfold stop
  rw [Bool.or_eq_false_iff, Bool.or_eq_false_iff, beq_eq_false_iff_ne, beq_eq_false_iff_ne, beq_eq_false_iff_ne]
  exact ⟨⟨fun e => h1 (by rw [e]; rfl), fun e => h2 (by rw [e]; rfl)⟩, fun e => h3 (by rw [e]; rfl)⟩
theorem stop_yes {x : UInt8} (h : (x.toNat : Int) = 32 ∨ (x.toNat : Int) = 13 ∨ (x.toNat : Int) = 10) : stop x = true := by
  have e : ∀ c : UInt8, (x.toNat : Int) = (c.toNat : Int) → x = c := fun c q => UInt8.toNat_inj.1 (by omega)
  rcases h with h | h | h
  · rw [e 32 h]; rfl
  · rw [e 13 h]; rfl
  · rw [e 10 h]; rfl
set_option maxRecDepth 100000 in
set_option maxHeartbeats 2000000 in
theorem rread_any (v : Value) (l : B) (w : World) (hR : BRd v l w) (hl : l.length ≤ 100000) :
    Calls Tryz.prog 62 #[v] w fun e w' => e = .returned (.tuple #[hV (rH l), .int .i64 (rE l)]) ∧ Kept w w' := by
  have hb : (w.alloc (.cells z2H 68)).heap[w.heap.size]? = some (.cells z2H 68) := World.alloc_heap_new w _
  have kb := (Kept.refl w).alloc (.cells z2H 68)
  have s0 : (w.alloc (.cells z2H 68)).heap.size = w.heap.size + 1 := by simp
  have R0 := Lib.hid (hR.kept kb)
  clear s0
  obtain ⟨va, vc, hvv⟩ := hR.slice
  by_cases hne : l = []
  · subst hne
    have HQ := Lib.hid (And.intro (rE_none (red_no58 (l := []) (by simp))).2 (rE_none (red_no58 (l := []) (by simp))).1)
    subst hvv
    have HB := Lib.hid hb
    have KB := Lib.hid kb
    clear hR R0 hb kb
    go_enter Tryz.func62, Tryz.ntmps62
    go_upto_region 1 with (fail)
    generalize w.alloc (.cells z2H 68) = x0 at *
    go_wp2_with fail
    go_loopw [4] (fun vi wr => vi = .int .i64 0 ∧ Hid (wr = x0)) (fun _ _ => 0)
    case atStart => exact ⟨rfl, Lib.hid rfl⟩
    case round =>
      obtain ⟨rfl, hW⟩ := hrel
      obtain rfl := hW.out.symm
      clear hW
      have hb1 := HB.out
      have K1 := KB
      go_wp2_with (refine wpList_store_row rfl 68 _ _ rfl w.heap.size _ rfl rfl 68 _ hb1 (by kernel_rfl) rfl (by simp [Value.oneCell']) ?_)
      exact bodyPost_ret (v := .tuple #[hV ([], []), .int .i64 2]) (results_row_tmp Tryz.results62 _ _ w.heap.size _ _ rfl rfl (run_loadVar_row _ w.heap.size 68 _ _ (0, 0) _ (setRow_heap _ _ _ _ _ _ hb1) Tryz.underlying68 rfl (by kernel_rfl))) rfl ⟨by rw [HQ.out.1, HQ.out.2], kept_setRow K1.out (Nat.le_refl _) _⟩
  obtain ⟨g, o, rfl⟩ : ∃ g o, va = some ⟨g, o, none⟩ := by
    obtain ⟨x, hx⟩ : ∃ x, l[0]? = some x := ⟨_, List.getElem?_eq_getElem (List.length_pos_iff.2 hne)⟩
    obtain ⟨g, o, c, h, _⟩ := hR.at hx
    rw [hvv] at h
    injection h with h
    exact ⟨g, o, h⟩
  subst hvv
  have hcl : l.length ≤ vc := by
    obtain ⟨_, _, hw, _, hq⟩ := hR
    obtain ⟨_, _, ha, hc, hcell⟩ := hq hne
    cases hw; exact hc
  have hvc0 : ¬ vc = 0 := by have := List.length_pos_iff.2 hne; omega
  have HB := Lib.hid hb
  have KB := Lib.hid kb
  clear hR hb kb
  go_enter Tryz.func62, Tryz.ntmps62
  go_upto_region 1 with (fail)
  generalize w.alloc (.cells z2H 68) = x0 at *
  go_wp2_with fail
  go_loopw [4] (fun vi wr => ∃ n : Nat, n ≤ l.length ∧ vi = .int .i64 n ∧ Hid ((58 : UInt8) ∉ l.take n) ∧ Hid (wr = x0)) (fun vi _ => l.length - (intOf vi).toNat)
  case atStart => exact ⟨0, Nat.zero_le _, rfl, Lib.hid (by simp), Lib.hid rfl⟩
  case round =>
    obtain ⟨n, hn, rfl, hN, hW⟩ := hrel
    obtain rfl := hW.out.symm
    clear hW
    by_cases hlt : n < l.length
    · have hltI : (n : Int) < l.length := by omega
      obtain ⟨x, hx⟩ : ∃ x, l[n]? = some x := ⟨_, List.getElem?_eq_getElem hlt⟩
      obtain ⟨g2, o2, c2, hv', hcp, cell⟩ := R0.out.at hx
      injection hv' with ea _ ec
      have hq := Option.some.inj ea
      injection hq with e1 e2
      subst e1 e2 ec
      by_cases h58 : (x.toNat : Int) = 58
      · obtain rfl : x = 58 := UInt8.toNat_inj.1 (show x.toNat = 58 by omega)
        have HG := Lib.hid (red_gue (gue58 hx hN.out))
        have cell' : x0.cell? ⟨g, o + n, none⟩ = some (.int .u8 58) := cell
        have hpl : (l.take n).length = n := by rw [List.length_take]; omega
        have hcv := (R0.out.to n hn).conv
        clear hx h58 cell hN
        go_wp2_with fail
        go_loopw [5, 6, 7] (fun vl vw vi wr => ∃ (k : Nat) (cur : B) (done : List B), n + 1 ≤ k ∧ k ≤ l.length ∧ sumW done + 4 * cur.length ≤ 4 * k ∧ vw = sV cur ∧ vi = .int .i64 k ∧ Hid (tok [] (l.drop (n + 1)) = done ++ tok cur (l.drop k)) ∧ Hid (OwnS x0.heap.size vl done wr) ∧ Hid (Kept x0 wr)) (fun _ _ vi _ => l.length - (intOf vi).toNat)
        case atStart => exact ⟨n + 1, [], [], Nat.le_refl _, hlt, by simp [sumW], rfl, by go_num, Lib.hid rfl, Lib.hid (OwnS.nil _ _), Lib.hid (Kept.refl _)⟩
        case round =>
          clear hcv cell'
          obtain ⟨k, cur, done, hk0, hk, hsm, rfl, rfl, hT, hO, hK⟩ := hrel
          have hdl := (sumW_len done).1
          by_cases hkl : k < l.length
          · have hklI : (k : Int) < l.length := by omega
            obtain ⟨x, hx⟩ : ∃ x, l[k]? = some x := ⟨_, List.getElem?_eq_getElem hkl⟩
            have RW := Lib.hid (R0.out.kept hK.out)
            obtain ⟨g2, o2, c2, hv', hcp, cell⟩ := RW.out.at hx
            injection hv' with ea _ ec
            have hq := Option.some.inj ea
            injection hq with e1 e2
            subst e1 e2 ec
            obtain ⟨va, vb, hvv⟩ := own_slice hO.out
            subst hvv
            by_cases h32 : (x.toNat : Int) = 32
            · have hs := stop_yes (Or.inl h32)
              rw [h32] at cell
              by_cases hc0 : cur = []
              · subst hc0
                have HT := Lib.hid (hT.out.trans (by rw [tok_0 hx hs]))
                clear hx h32 hs hT RW
                go_wp2_with fail
                go_roundw
                case rel => exact ⟨k + 1, [], done, by omega, hkl, by simp at hsm ⊢; omega, rfl, by go_num, HT, hO, hK⟩
                case measure => simp [intOf]; omega
              · have HT := Lib.hid (hT.out.trans (show done ++ tok cur (l.drop k) = (done ++ [cur]) ++ tok [] (l.drop (k + 1)) by rw [tok_s hx hs hc0]; simp))
                have hcb : (cur == []) = false := beq_eq_false_iff_ne.2 hc0
                have hal := (Kept.refl wr).alloc (.cells #[sV cur] 9)
                have hc1 := (Kept.refl (wr.alloc (.cells #[sV cur] 9))).new 0 (v := sV cur) rfl
                have O1 := Lib.hid (OwnS.kept hO.out hal)
                have K1 := Lib.hid (hK.out.trans hal)
                have hB1 := K1.out.size
                have hsm2 : sumW (done ++ [cur]) ≤ 4 * (k + 1) := by rw [sumW_app]; have := List.length_pos_iff.2 hc0; omega
                clear hx h32 hs hT RW hal hc0 hO hK
                go_wp2_with (at_builtin; refine wpList_pushS rfl _ _ rfl x0.heap.size _ done cur wr.heap.size rfl O1.out rfl hc1 (by omega) hB1 ?_)
                intro v4 y hy hgy
                have K4 := Lib.hid (kept_row K1.out hgy (fun g hg => (World.ownsRow.lt O1.out g hg).1))
                have O4 := Lib.hid hy
                clear hy hgy O1 K1 hc1 hB1
                go_wp2_with fail
                go_roundw
                case rel => exact ⟨k + 1, [], done ++ [cur], by omega, hkl, by simpa using hsm2, rfl, by go_num, HT, O4, K4⟩
                case measure => simp [intOf]; omega
            by_cases h13 : (x.toNat : Int) = 13
            · have hs := stop_yes (Or.inr (Or.inl h13))
              rw [h13] at cell
              by_cases hc0 : cur = []
              · subst hc0
                have HT := Lib.hid (hT.out.trans (by rw [tok_0 hx hs]))
                clear hx h13 h32 hs hT RW
                go_wp2_with fail
                go_roundw
                case rel => exact ⟨k + 1, [], done, by omega, hkl, by simp at hsm ⊢; omega, rfl, by go_num, HT, hO, hK⟩
                case measure => simp [intOf]; omega
              · have HT := Lib.hid (hT.out.trans (show done ++ tok cur (l.drop k) = (done ++ [cur]) ++ tok [] (l.drop (k + 1)) by rw [tok_s hx hs hc0]; simp))
                have hcb : (cur == []) = false := beq_eq_false_iff_ne.2 hc0
                have hal := (Kept.refl wr).alloc (.cells #[sV cur] 9)
                have hc1 := (Kept.refl (wr.alloc (.cells #[sV cur] 9))).new 0 (v := sV cur) rfl
                have O1 := Lib.hid (OwnS.kept hO.out hal)
                have K1 := Lib.hid (hK.out.trans hal)
                have hB1 := K1.out.size
                have hsm2 : sumW (done ++ [cur]) ≤ 4 * (k + 1) := by rw [sumW_app]; have := List.length_pos_iff.2 hc0; omega
                clear hx h13 h32 hs hT RW hal hc0 hO hK
                go_wp2_with (at_builtin; refine wpList_pushS rfl _ _ rfl x0.heap.size _ done cur wr.heap.size rfl O1.out rfl hc1 (by omega) hB1 ?_)
                intro v4 y hy hgy
                have K4 := Lib.hid (kept_row K1.out hgy (fun g hg => (World.ownsRow.lt O1.out g hg).1))
                have O4 := Lib.hid hy
                clear hy hgy O1 K1 hc1 hB1
                go_wp2_with fail
                go_roundw
                case rel => exact ⟨k + 1, [], done ++ [cur], by omega, hkl, by simpa using hsm2, rfl, by go_num, HT, O4, K4⟩
                case measure => simp [intOf]; omega
            by_cases h10 : (x.toNat : Int) = 10
            · have hs := stop_yes (Or.inr (Or.inr h10))
              rw [h10] at cell
              by_cases hc0 : cur = []
              · subst hc0
                have HT := Lib.hid (hT.out.trans (by rw [tok_0 hx hs]))
                clear hx h10 h13 h32 hs hT RW
                go_wp2_with fail
                go_roundw
                case rel => exact ⟨k + 1, [], done, by omega, hkl, by simp at hsm ⊢; omega, rfl, by go_num, HT, hO, hK⟩
                case measure => simp [intOf]; omega
              · have HT := Lib.hid (hT.out.trans (show done ++ tok cur (l.drop k) = (done ++ [cur]) ++ tok [] (l.drop (k + 1)) by rw [tok_s hx hs hc0]; simp))
                have hcb : (cur == []) = false := beq_eq_false_iff_ne.2 hc0
                have hal := (Kept.refl wr).alloc (.cells #[sV cur] 9)
                have hc1 := (Kept.refl (wr.alloc (.cells #[sV cur] 9))).new 0 (v := sV cur) rfl
                have O1 := Lib.hid (OwnS.kept hO.out hal)
                have K1 := Lib.hid (hK.out.trans hal)
                have hB1 := K1.out.size
                have hsm2 : sumW (done ++ [cur]) ≤ 4 * (k + 1) := by rw [sumW_app]; have := List.length_pos_iff.2 hc0; omega
                clear hx h10 h13 h32 hs hT RW hal hc0 hO hK
                go_wp2_with (at_builtin; refine wpList_pushS rfl _ _ rfl x0.heap.size _ done cur wr.heap.size rfl O1.out rfl hc1 (by omega) hB1 ?_)
                intro v4 y hy hgy
                have K4 := Lib.hid (kept_row K1.out hgy (fun g hg => (World.ownsRow.lt O1.out g hg).1))
                have O4 := Lib.hid hy
                clear hy hgy O1 K1 hc1 hB1
                go_wp2_with fail
                go_roundw
                case rel => exact ⟨k + 1, [], done ++ [cur], by omega, hkl, by simpa using hsm2, rfl, by go_num, HT, O4, K4⟩
                case measure => simp [intOf]; omega
            · have hs := stop_no h32 h13 h10
              have HT := Lib.hid (hT.out.trans (by rw [tok_m hx hs]))
              have b32 : ((x.toNat : Int) == 32) = false := beq_eq_false_iff_ne.2 h32
              have b13 : ((x.toNat : Int) == 13) = false := beq_eq_false_iff_ne.2 h13
              have b10 : ((x.toNat : Int) == 10) = false := beq_eq_false_iff_ne.2 h10
              have hsub := RW.out.sub k (k + 1) (Nat.le_succ k) hkl
              rw [show (l.take (k + 1)).drop k = [x] by rw [List.take_add_one, hx, List.drop_append_of_le_length (by rw [List.length_take]; omega), List.drop_eq_nil_of_le (by rw [List.length_take]; omega)]; rfl, show k + 1 - k = 1 by omega] at hsub
              have hcv := hsub.conv
              have happ : (⟨cur.toArray⟩ ++ ⟨#[x]⟩ : ByteArray) = ⟨(cur ++ [x]).toArray⟩ := app_mk cur [x]
              have hcx : (cur ++ [x]).length = cur.length + 1 := by simp
              have hck : ¬ vc = k := by omega
              have hkI1 : (k : Int) + 1 ≤ vc := by omega
              clear hx h32 h13 h10 hs hT hsub RW
              generalize cur ++ [x] = cur2 at *
              go_wp2_with fail
              go_roundw
              case rel => exact ⟨k + 1, cur2, done, by omega, hkl, by rw [hcx]; omega, rfl, by go_num, HT, hO, hK⟩
              case measure => simp [intOf]; omega
          · have hklI : ¬ (k : Int) < l.length := by omega
            obtain rfl : k = l.length := by omega
            have HT := Lib.hid (show tok [] (l.drop (n + 1)) = done by rw [hT.out, List.drop_eq_nil_of_le (Nat.le_refl _), tok, List.append_nil])
            clear hT
            rw [HT.out] at HG
            have RW := Lib.hid (R0.out.kept hK.out)
            have hcv := ((RW.out.to n hn).kept (Kept.refl wr).drew).conv
            have HT2 := Lib.hid ((R0.out.to n hn))
            have hnI : (n : Int) ≤ vc := by omega
            have HVL := Lib.hid (show (val done).length ≤ 1000000 by
              unfold val
              cases hp : parts done with
              | none => have := ic_len done; simp; omega
              | some A => have := partsW done A hp; simp; omega)
            obtain ⟨va, vb, hvv⟩ := own_slice hO.out
            subst hvv
            have HVl := Lib.hid (fun (w : World) (h : SRd (.slice va done.length vb) done w) => rvalue_any _ done w h (by omega))
            have hpL : (l.take n).length ≤ 100000 := by omega
            have HLi := Lib.hid (fun w => rline_any (l.take n, val done) w (by simp only; omega) (by simp only; have := HVL.out; omega))
            generalize val done = tx at *
            generalize l.take n = p at *
            have SD := Lib.hid ((OwnS.rd hO.out).kept (Kept.refl wr).drew)
            have KD := Lib.hid (hK.out.trans (Kept.refl wr).drew)
            clear hO hK HVL hdl hsm HT hpL
            go_upto_region 16 with (fail)
            refine wp_region_held_drew (S := (fun y => (convert 26 9 (.slice (some ⟨g, o, none⟩) n vc)).run Tryz.prog y = .ok (sV p) y)) (by kernel_rfl) hcv (fun hS0 => ?_)
            clear hcv
            generalize wr.drew = x6 at *
            refine wpAnyH_take (i := 0) (oi := { dst := some 70, op := Go.Op.move (Go.Operand.tmp 0), type := 26, pos := "ref.go:132", after := #[], guard := none }) (v := ?vs0) rfl (by kernel_rfl) (by kernel_rfl) (by kernel_rfl) (fun _ _ _ h => h) (Or.inl ⟨by rfl, ?ys0⟩) (by assumption) ?rs0
            case ys0 => (intro wq hSw; (try dsimp only at hSw); go_simp; try with_reducible rfl)
            simp only [Act.put, List.setIfInBounds_toArray, List.set_cons_zero, List.set_cons_succ]
            refine wpAnyH_take (i := 1) (oi := { dst := some 71, op := Go.Op.move (Go.Operand.tmp 4), type := 3, pos := "ref.go:132", after := #[], guard := none }) (v := ?vs1) rfl (by kernel_rfl) (by kernel_rfl) (by kernel_rfl) (fun _ _ _ h => h) (Or.inl ⟨by rfl, ?ys1⟩) (by assumption) ?rs1
            case ys1 => (intro wq hSw; (try dsimp only at hSw); go_simp; try with_reducible rfl)
            simp only [Act.put, List.setIfInBounds_toArray, List.set_cons_zero, List.set_cons_succ]
            refine wpAnyH_take (i := 2) (oi := { dst := some 72, op := Go.Op.slice 26 (Go.Operand.tmp 70) none (some (Go.Operand.tmp 71)) none, type := 26, pos := "ref.go:132", after := #[{ on := 0, ground := Go.Ground.data }, { on := 1, ground := Go.Ground.data }], guard := none }) (v := ?vs2) rfl (by kernel_rfl) (by kernel_rfl) (by kernel_rfl) (fun _ _ _ h => h) (Or.inl ⟨by rfl, ?ys2⟩) (by assumption) ?rs2
            case ys2 => (intro wq hSw; (try dsimp only at hSw); go_simp; try with_reducible rfl)
            simp only [Act.put, List.setIfInBounds_toArray, List.set_cons_zero, List.set_cons_succ]
            refine wpAnyH_take (i := 3) (oi := { dst := some 73, op := Go.Op.convert 26 9 (Go.Operand.tmp 72), type := 9, pos := "ref.go:132", after := #[{ on := 2, ground := Go.Ground.data }], guard := none }) (v := ?vs3) rfl (by kernel_rfl) (by kernel_rfl) (by kernel_rfl) (fun _ _ _ h => h) (Or.inl ⟨by rfl, ?ys3⟩) (by assumption) ?rs3
            case ys3 => (intro wq hSw; (try dsimp only at hSw); go_simp; try with_reducible rfl)
            simp only [Act.put, List.setIfInBounds_toArray, List.set_cons_zero, List.set_cons_succ]
            refine wpAnyH_take (i := 4) (oi := { dst := some 74, op := Go.Op.move (Go.Operand.tmp 5), type := 22, pos := "ref.go:132", after := #[], guard := none }) (v := ?vs4) rfl (by kernel_rfl) (by kernel_rfl) (by kernel_rfl) (fun _ _ _ h => h) (Or.inl ⟨by rfl, ?ys4⟩) (by assumption) ?rs4
            case ys4 => (intro wq hSw; (try dsimp only at hSw); go_simp; try with_reducible rfl)
            simp only [Act.put, List.setIfInBounds_toArray, List.set_cons_zero, List.set_cons_succ]
            refine wpAnyH_ready (rs := [5, 7]) (by kernel_rfl) (by simp) (AllReadyH.cons (o := { dst := some 75, op := Go.Op.call { callee := Go.Callee.value (Go.Operand.func 87), args := #[Go.Operand.tmp 74], argTypes := #[22] }, type := 9, pos := "ref.go:132", after := #[{ on := 4, ground := Go.Ground.data }], guard := none }) rfl (fun K hK => ?_) (AllReadyH.cons (o := { dst := some 8, op := Go.Op.alloc 68, type := 0, pos := "ref.go:132", after := #[], guard := none }) rfl (fun K hK => ?_) AllReadyH.nil))
            · go_simp
              refine (HVl.out _ SD.out).mono ?_
              rintro e y1 ⟨rfl, k1⟩
              have K2 := Lib.hid (KD.out.trans k1)
              refine Shut.out hK _ _ ((HT2.out.kept K2.out).conv) (fun hSb => ?_)
              clear hK K
              try simp only [Act.put, List.setIfInBounds_toArray, List.set_cons_zero, List.set_cons_succ]
              clear k1
              refine wpAnyH_take (i := 6) (oi := { dst := some 76, op := Go.Op.build 68 #[(0, Go.Operand.tmp 73), (1, Go.Operand.tmp 75)], type := 68, pos := "ref.go:132", after := #[{ on := 3, ground := Go.Ground.data }, { on := 5, ground := Go.Ground.data }], guard := none }) (v := ?vp6) rfl (by kernel_rfl) (by kernel_rfl) (by kernel_rfl) (fun _ _ _ h => h) (Or.inl ⟨by rfl, ?yp6⟩) (by assumption) ?rp6
              case yp6 => (intro wq hSw; (try dsimp only at hSw); go_simp; try with_reducible rfl)
              simp only [Act.put, List.setIfInBounds_toArray, List.set_cons_zero, List.set_cons_succ]
              refine wpAnyH_ready (rs := [7]) (by kernel_rfl) (by simp) (AllReadyH.cons (o := { dst := some 8, op := Go.Op.alloc 68, type := 0, pos := "ref.go:132", after := #[], guard := none }) rfl (fun K hK => ?_) AllReadyH.nil)
              go_simp
              have ka := (Kept.refl y1).alloc (.cells z2H 68)
              have hg1 : (y1.alloc (.cells z2H 68)).heap[y1.heap.size]? = some (.cells z2H 68) := World.alloc_heap_new y1 _
              have K3 := Lib.hid (K2.out.trans ka)
              refine Shut.out hK _ _ ((HT2.out.kept K3.out).conv) (fun hSb => ?_)
              clear hK K
              try simp only [Act.put, List.setIfInBounds_toArray, List.set_cons_zero, List.set_cons_succ]
              generalize hyy : y1.alloc (.cells z2H 68) = y2 at *
              refine wpAnyH_ready (rs := [8]) (by kernel_rfl) (by simp) (AllReadyH.cons (o := { dst := none, op := Go.Op.store 68 (Go.Operand.tmp 8) (Go.Operand.tmp 76), type := 0, pos := "ref.go:132", after := #[{ on := 7, ground := Go.Ground.data }, { on := 6, ground := Go.Ground.data }, { on := 5, ground := Go.Ground.chain }, { on := 0, ground := Go.Ground.phase }, { on := 1, ground := Go.Ground.phase }, { on := 2, ground := Go.Ground.phase }, { on := 3, ground := Go.Ground.phase }, { on := 4, ground := Go.Ground.phase }, { on := 5, ground := Go.Ground.phase }, { on := 6, ground := Go.Ground.phase }, { on := 7, ground := Go.Ground.phase }], guard := none }) rfl (fun K hK => ?_) AllReadyH.nil)
              rw [if_pos (by rfl)]
              refine wp_store_row 68 _ _ rfl y1.heap.size #[sV p, sV tx] rfl rfl 68 _ hg1 (by kernel_rfl) rfl (by simp [Value.oneCell']) ?_
              have HG2 := Lib.hid (show (y2.setRow y1.heap.size #[sV p, sV tx]).heap[y1.heap.size]? = some (.cells #[sV p, sV tx] 68 (0, 0)) from setRow_heap _ _ _ _ _ _ hg1)
              have KY := Lib.hid (kept_setRow K3.out K2.out.size #[sV p, sV tx])
              refine Shut.out hK _ _ ((HT2.out.kept KY.out).conv) (fun hSb => ?_)
              clear hK K
              try simp only [Act.put, List.setIfInBounds_toArray, List.set_cons_zero, List.set_cons_succ]
              refine wpAnyH_done (by kernel_rfl) ?_ _
              clear hg1 hyy ka K3 K2 KD SD HVl HT2 hS0 hSb
              have KH := Lib.hid (KB.out.trans KY.out)
              have RY := Lib.hid (R0.out.kept KY.out)
              have c0 := cell_at HG2.out (j := 0) (v := sV p) rfl
              have c1 := cell_at HG2.out (j := 1) (v := sV tx) rfl
              have hb2 := (KY.out.block _ (Array.getElem?_eq_some_iff.1 HB.out).1).trans HB.out
              go_wp2_with fail
              refine (HLi.out _).mono ?_
              rintro e z ⟨xv, rfl, hxo, kz⟩
              have hb1 : z.heap[w.heap.size]? = some (.cells z2H 68) := (kz.block _ (Array.getElem?_eq_some_iff.1 hb2).1).trans hb2
              have K1 := Lib.hid (KH.out.trans kz)
              have d0 := kz.yes c0
              have d1 := kz.yes c1
              have RZ := Lib.hid (RY.out.kept kz)
              clear c0 c1 hb2 kz KH RY KY HG2 HLi
              obtain ⟨xa, xc, hxv⟩ := hxo.slice
              subst hxv
              cases hok : okH (p, tx) with
              | false =>
                rw [line_no hok, if_neg (by simp)] at HG
                have HQ := Lib.hid (And.intro (rE_none HG.out).2 (rE_none HG.out).1)
                rw [lE_no hok]
                generalize ((line (p, tx)).getD []).length = n1 at *
                clear hok HG hxo d0 d1 RZ
                go_wp2_with (refine wpList_store_row rfl 68 _ _ rfl w.heap.size _ rfl rfl 68 _ hb1 (by kernel_rfl) rfl (by simp [Value.oneCell']) ?_)
                exact bodyPost_ret (v := .tuple #[hV ([], []), .int .i64 2]) (results_row_tmp Tryz.results62 _ _ w.heap.size _ _ rfl rfl (run_loadVar_row _ w.heap.size 68 _ _ (0, 0) _ (setRow_heap _ _ _ _ _ _ hb1) Tryz.underlying68 rfl (by kernel_rfl))) rfl ⟨by rw [HQ.out.1, HQ.out.2], kept_setRow K1.out (Nat.le_refl _) _⟩
              | true =>
                rw [line_lnH hok] at HG hxo ⊢
                rw [lE_ok hok]
                rw [Option.getD_some] at hxo ⊢
                have hcv1 := hxo.rd.conv
                have hcv2 := RZ.out.conv
                generalize hE : lnH (p, tx) = E at *
                clear hok hxo RZ hE
                by_cases heq : E = l
                · subst heq
                  rw [if_pos rfl] at HG
                  have HQ := Lib.hid (And.intro (rE_some HG.out).2 (rE_some HG.out).1)
                  clear HG
                  go_wp2_with (refine wpList_store_row rfl 68 _ _ rfl w.heap.size _ rfl rfl 68 _ hb1 (by kernel_rfl) rfl (by simp [Value.oneCell']) ?_)
                  exact bodyPost_ret (v := .tuple #[hV (p, tx), .int .i64 0]) (results_row_tmp Tryz.results62 _ _ w.heap.size _ _ rfl rfl (run_loadVar_row _ w.heap.size 68 _ _ (0, 0) _ (setRow_heap _ _ _ _ _ _ hb1) Tryz.underlying68 rfl (by kernel_rfl))) rfl ⟨by rw [HQ.out.1, HQ.out.2], kept_setRow K1.out (Nat.le_refl _) _⟩
                · rw [if_neg (by simpa using heq)] at HG
                  have HQ := Lib.hid (And.intro (rE_none HG.out).2 (rE_none HG.out).1)
                  have hEb : (E == l) = false := beq_eq_false_iff_ne.2 heq
                  clear HG heq d0 d1
                  go_wp2_with (refine wpList_store_row rfl 68 _ _ rfl w.heap.size _ rfl rfl 68 _ hb1 (by kernel_rfl) rfl (by simp [Value.oneCell']) ?_)
                  exact bodyPost_ret (v := .tuple #[hV ([], []), .int .i64 2]) (results_row_tmp Tryz.results62 _ _ w.heap.size _ _ rfl rfl (run_loadVar_row _ w.heap.size 68 _ _ (0, 0) _ (setRow_heap _ _ _ _ _ _ hb1) Tryz.underlying68 rfl (by kernel_rfl))) rfl ⟨by rw [HQ.out.1, HQ.out.2], kept_setRow K1.out (Nat.le_refl _) _⟩
            · go_simp
              have ka := (Kept.refl x6).alloc (.cells z2H 68)
              have hg0 : (x6.alloc (.cells z2H 68)).heap[x6.heap.size]? = some (.cells z2H 68) := World.alloc_heap_new x6 _
              have K2 := Lib.hid (KD.out.trans ka)
              have SA := Lib.hid (SD.out.kept ka)
              refine Shut.out hK _ _ ((HT2.out.kept K2.out).conv) (fun hSb => ?_)
              clear hK K
              try simp only [Act.put, List.setIfInBounds_toArray, List.set_cons_zero, List.set_cons_succ]
              generalize hyy : x6.alloc (.cells z2H 68) = y1 at *
              refine wpAnyH_ready (rs := [5]) (by kernel_rfl) (by simp) (AllReadyH.cons (o := { dst := some 75, op := Go.Op.call { callee := Go.Callee.value (Go.Operand.func 87), args := #[Go.Operand.tmp 74], argTypes := #[22] }, type := 9, pos := "ref.go:132", after := #[{ on := 4, ground := Go.Ground.data }], guard := none }) rfl (fun K hK => ?_) AllReadyH.nil)
              go_simp
              refine (HVl.out _ SA.out).mono ?_
              rintro e y2 ⟨rfl, k1⟩
              have K3 := Lib.hid (K2.out.trans k1)
              have hg1 := (k1.block _ (Array.getElem?_eq_some_iff.1 hg0).1).trans hg0
              refine Shut.out hK _ _ ((HT2.out.kept K3.out).conv) (fun hSb => ?_)
              clear hK K
              try simp only [Act.put, List.setIfInBounds_toArray, List.set_cons_zero, List.set_cons_succ]
              refine wpAnyH_take (i := 6) (oi := { dst := some 76, op := Go.Op.build 68 #[(0, Go.Operand.tmp 73), (1, Go.Operand.tmp 75)], type := 68, pos := "ref.go:132", after := #[{ on := 3, ground := Go.Ground.data }, { on := 5, ground := Go.Ground.data }], guard := none }) (v := ?vq6) rfl (by kernel_rfl) (by kernel_rfl) (by kernel_rfl) (fun _ _ _ h => h) (Or.inl ⟨by rfl, ?yq6⟩) (by assumption) ?rq6
              case yq6 => (intro wq hSw; (try dsimp only at hSw); go_simp; try with_reducible rfl)
              simp only [Act.put, List.setIfInBounds_toArray, List.set_cons_zero, List.set_cons_succ]
              refine wpAnyH_ready (rs := [8]) (by kernel_rfl) (by simp) (AllReadyH.cons (o := { dst := none, op := Go.Op.store 68 (Go.Operand.tmp 8) (Go.Operand.tmp 76), type := 0, pos := "ref.go:132", after := #[{ on := 7, ground := Go.Ground.data }, { on := 6, ground := Go.Ground.data }, { on := 5, ground := Go.Ground.chain }, { on := 0, ground := Go.Ground.phase }, { on := 1, ground := Go.Ground.phase }, { on := 2, ground := Go.Ground.phase }, { on := 3, ground := Go.Ground.phase }, { on := 4, ground := Go.Ground.phase }, { on := 5, ground := Go.Ground.phase }, { on := 6, ground := Go.Ground.phase }, { on := 7, ground := Go.Ground.phase }], guard := none }) rfl (fun K hK => ?_) AllReadyH.nil)
              rw [if_pos (by rfl)]
              refine wp_store_row 68 _ _ rfl x6.heap.size #[sV p, sV tx] rfl rfl 68 _ hg1 (by kernel_rfl) rfl (by simp [Value.oneCell']) ?_
              have HG2 := Lib.hid (show (y2.setRow x6.heap.size #[sV p, sV tx]).heap[x6.heap.size]? = some (.cells #[sV p, sV tx] 68 (0, 0)) from setRow_heap _ _ _ _ _ _ hg1)
              have KY := Lib.hid (kept_setRow K3.out KD.out.size #[sV p, sV tx])
              refine Shut.out hK _ _ ((HT2.out.kept KY.out).conv) (fun hSb => ?_)
              clear hK K
              try simp only [Act.put, List.setIfInBounds_toArray, List.set_cons_zero, List.set_cons_succ]
              refine wpAnyH_done (by kernel_rfl) ?_ _
              clear hg1 hg0 k1 hyy ka K3 K2 KD SA SD HVl HT2 hS0 hSb
              have KH := Lib.hid (KB.out.trans KY.out)
              have RY := Lib.hid (R0.out.kept KY.out)
              have c0 := cell_at HG2.out (j := 0) (v := sV p) rfl
              have c1 := cell_at HG2.out (j := 1) (v := sV tx) rfl
              have hb2 := (KY.out.block _ (Array.getElem?_eq_some_iff.1 HB.out).1).trans HB.out
              go_wp2_with fail
              refine (HLi.out _).mono ?_
              rintro e z ⟨xv, rfl, hxo, kz⟩
              have hb1 : z.heap[w.heap.size]? = some (.cells z2H 68) := (kz.block _ (Array.getElem?_eq_some_iff.1 hb2).1).trans hb2
              have K1 := Lib.hid (KH.out.trans kz)
              have d0 := kz.yes c0
              have d1 := kz.yes c1
              have RZ := Lib.hid (RY.out.kept kz)
              clear c0 c1 hb2 kz KH RY KY HG2 HLi
              obtain ⟨xa, xc, hxv⟩ := hxo.slice
              subst hxv
              cases hok : okH (p, tx) with
              | false =>
                rw [line_no hok, if_neg (by simp)] at HG
                have HQ := Lib.hid (And.intro (rE_none HG.out).2 (rE_none HG.out).1)
                rw [lE_no hok]
                generalize ((line (p, tx)).getD []).length = n1 at *
                clear hok HG hxo d0 d1 RZ
                go_wp2_with (refine wpList_store_row rfl 68 _ _ rfl w.heap.size _ rfl rfl 68 _ hb1 (by kernel_rfl) rfl (by simp [Value.oneCell']) ?_)
                exact bodyPost_ret (v := .tuple #[hV ([], []), .int .i64 2]) (results_row_tmp Tryz.results62 _ _ w.heap.size _ _ rfl rfl (run_loadVar_row _ w.heap.size 68 _ _ (0, 0) _ (setRow_heap _ _ _ _ _ _ hb1) Tryz.underlying68 rfl (by kernel_rfl))) rfl ⟨by rw [HQ.out.1, HQ.out.2], kept_setRow K1.out (Nat.le_refl _) _⟩
              | true =>
                rw [line_lnH hok] at HG hxo ⊢
                rw [lE_ok hok]
                rw [Option.getD_some] at hxo ⊢
                have hcv1 := hxo.rd.conv
                have hcv2 := RZ.out.conv
                generalize hE : lnH (p, tx) = E at *
                clear hok hxo RZ hE
                by_cases heq : E = l
                · subst heq
                  rw [if_pos rfl] at HG
                  have HQ := Lib.hid (And.intro (rE_some HG.out).2 (rE_some HG.out).1)
                  clear HG
                  go_wp2_with (refine wpList_store_row rfl 68 _ _ rfl w.heap.size _ rfl rfl 68 _ hb1 (by kernel_rfl) rfl (by simp [Value.oneCell']) ?_)
                  exact bodyPost_ret (v := .tuple #[hV (p, tx), .int .i64 0]) (results_row_tmp Tryz.results62 _ _ w.heap.size _ _ rfl rfl (run_loadVar_row _ w.heap.size 68 _ _ (0, 0) _ (setRow_heap _ _ _ _ _ _ hb1) Tryz.underlying68 rfl (by kernel_rfl))) rfl ⟨by rw [HQ.out.1, HQ.out.2], kept_setRow K1.out (Nat.le_refl _) _⟩
                · rw [if_neg (by simpa using heq)] at HG
                  have HQ := Lib.hid (And.intro (rE_none HG.out).2 (rE_none HG.out).1)
                  have hEb : (E == l) = false := beq_eq_false_iff_ne.2 heq
                  clear HG heq d0 d1
                  go_wp2_with (refine wpList_store_row rfl 68 _ _ rfl w.heap.size _ rfl rfl 68 _ hb1 (by kernel_rfl) rfl (by simp [Value.oneCell']) ?_)
                  exact bodyPost_ret (v := .tuple #[hV ([], []), .int .i64 2]) (results_row_tmp Tryz.results62 _ _ w.heap.size _ _ rfl rfl (run_loadVar_row _ w.heap.size 68 _ _ (0, 0) _ (setRow_heap _ _ _ _ _ _ hb1) Tryz.underlying68 rfl (by kernel_rfl))) rfl ⟨by rw [HQ.out.1, HQ.out.2], kept_setRow K1.out (Nat.le_refl _) _⟩
      · have HN := Lib.hid (show (58 : UInt8) ∉ l.take (n + 1) by
          rw [List.take_add_one, hx, List.mem_append]
          rintro (q | q)
          · exact hN.out q
          · simp at q; exact h58 (by rw [← q]; rfl))
        have h58b : ((x.toNat : Int) == 58) = false := beq_eq_false_iff_ne.2 h58
        clear hx hN h58
        go_wp2_with fail
        go_roundw
        case rel => exact ⟨n + 1, hlt, by go_num, HN, Lib.hid trivial⟩
        case measure => simp [intOf]; omega
    · have hltI : ¬ (n : Int) < l.length := by omega
      obtain rfl : n = l.length := by omega
      rw [List.take_length] at hN
      have HQ := Lib.hid (And.intro (rE_none (red_no58 hN.out)).2 (rE_none (red_no58 hN.out)).1)
      have hb1 := HB.out
      have K1 := KB
      clear hN HB KB
      go_wp2_with (refine wpList_store_row rfl 68 _ _ rfl w.heap.size _ rfl rfl 68 _ hb1 (by kernel_rfl) rfl (by simp [Value.oneCell']) ?_)
      exact bodyPost_ret (v := .tuple #[hV ([], []), .int .i64 2]) (results_row_tmp Tryz.results62 _ _ w.heap.size _ _ rfl rfl (run_loadVar_row _ w.heap.size 68 _ _ (0, 0) _ (setRow_heap _ _ _ _ _ _ hb1) Tryz.underlying68 rfl (by kernel_rfl))) rfl ⟨by rw [HQ.out.1, HQ.out.2], kept_setRow K1.out (Nat.le_refl _) _⟩
end Go.Proofs.YtgpocnnolieijaaGreatDoor.Hd
