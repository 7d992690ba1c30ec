/- The law's cut: bytes as pieces. -/
import Derived.Test.YtdfmnjoklehifaaDoorRpOq
import Derived.Test.YtdfmnjoklehifaaDoorRpLs
set_option linter.unusedSimpArgs false
set_option linter.unusedVariables false
namespace Go.Proofs.YtdfmnjoklehifaaDoor.Bk.Rp
open Go.ChangeShapes Go.WideShapes Go.ChangeAt Go.RowKit Go.Shelf
theorem IRd.kept {v : Value} {l : List Int} {w w' : World} (h : IRd v l w) (k : Kept w w') : IRd v l w' := by
  obtain ⟨a, c, hv, h⟩ := h
  refine ⟨a, c, hv, fun hne => ?_⟩
  obtain ⟨g, o, ha, hc, h⟩ := h hne
  exact ⟨g, o, ha, hc, fun i t ht => k.yes (h i t ht)⟩
theorem IRd.slice {v : Value} {l : List Int} {w : World} (h : IRd v l w) : ∃ a c, v = .slice a l.length c := by
  obtain ⟨a, c, hv, _⟩ := h
  exact ⟨a, c, hv⟩
theorem IRd.at {v : Value} {l : List Int} {w : World} (h : IRd v l w) {i : Nat} {z : Int} (hx : l[i]? = some z) : ∃ g o c, v = .slice (some ⟨g, o, none⟩) l.length c ∧ l.length ≤ c ∧ w.cell? ⟨g, o + i, none⟩ = some (iV z) := by
  obtain ⟨a, c, hv, h⟩ := h
  obtain ⟨g, o, ha, hc, hp⟩ := h (by rintro rfl; simp at hx)
  rw [ha] at hv
  exact ⟨g, o, c, hv, hc, hp i z hx⟩
theorem brd_addr {v : Value} {l : B} {w : World} (h : BRd v l w) (hne : l ≠ []) : ∃ g o c, v = .slice (some ⟨g, o, none⟩) l.length c ∧ l.length ≤ c := by
  obtain ⟨a, c, hv, _, h⟩ := h
  obtain ⟨g, o, ha, hc, _⟩ := h hne
  rw [ha] at hv
  exact ⟨g, o, c, hv, hc⟩
theorem brd_to {g o n c : Nat} {l : B} {w : World} (h : BRd (.slice (some ⟨g, o, none⟩) n c) l w) (j : Nat) (hj : j ≤ l.length) : BRd (.slice (some ⟨g, o, none⟩) j c) (l.take j) w := by
  have := h.sub 0 j (Nat.zero_le _) hj
  simpa using this
theorem brd_from {g o n c : Nat} {l : B} {w : World} (h : BRd (.slice (some ⟨g, o, none⟩) n c) l w) (j : Nat) (hj : j ≤ l.length) (hc : l.length ≤ c) : BRd (.slice (if c = j then some ⟨g, o, none⟩ else some ⟨g, o + j, none⟩) (l.length - j) (c - j)) (l.drop j) w := by
  by_cases q : c = j
  · rw [if_pos q]
    have e : l.drop j = [] := List.drop_eq_nil_of_le (by omega)
    rw [e, show l.length - j = 0 by omega]
    exact ⟨_, _, rfl, fun e => (by cases e), fun e => absurd rfl e⟩
  · rw [if_neg q]
    have := h.sub j l.length hj (Nat.le_refl _)
    simpa using this
theorem flat_app (ls : List B) (a r b : B) (k : Nat) (h : ls.flatten ++ r = b) (ha : a = r.take k) : (ls ++ [a]).flatten ++ r.drop k = b := by
  rw [← h, ha]; simp
set_option maxRecDepth 100000 in
set_option maxHeartbeats 8000000 in
theorem cut_pieces (b : B) (bv : Value) (sz : List Int) (sv : Value) (w : World) (hB : BRd bv b w) (hS : IRd sv sz w) (hb : b.length ≤ 1000000) (hs : sz.length ≤ 1000000) :
    Calls Tryd.prog 19 #[bv, sv] w fun e w' => ∃ v ls, e = .returned v ∧ LRd v ls w' ∧ (∀ r, v.ownBlock = some r → w.heap.size ≤ r) ∧ ls.flatten = b ∧ ls.length ≤ sz.length + 1 ∧ Kept w w' := by
  obtain ⟨ba, bc, rfl⟩ := hB.slice
  obtain ⟨sa, sc, rfl⟩ := hS.slice
  have HS := Lib.hid hS
  have HB := Lib.hid hB
  clear hS hB
  go_enter Tryd.func19, Tryd.ntmps19
  go_wp2_with fail
  go_loopw [0, 5, 6] (fun vb vo vi wr' => ∃ (i : Nat) (ls : List B) (r : B), i ≤ sz.length ∧ vi = .int .i64 i ∧ Hid (BRd vb r w) ∧ Hid (OwnLs w.heap.size vo ls wr') ∧ Hid (ls.flatten ++ r = b) ∧ Hid (ls.length = i) ∧ Hid (Kept w wr')) (fun _ _ vi _ => sz.length - (intOf vi).toNat)
  case atStart => exact ⟨0, [], b, Nat.zero_le _, rfl, HB, Lib.hid (OwnLs.nil _ _), Lib.hid (by simp), Lib.hid rfl, Lib.hid (Kept.refl _)⟩
  case round =>
    obtain ⟨i, ls, r, hi, rfl, hR, hO, hF, hn, hK⟩ := hrel
    have hrl : r.length ≤ b.length := by have := congrArg List.length hF.out; rw [List.length_append] at this; omega
    by_cases hne : r = []
    · have hz0 : ¬ (0 : Int) < r.length := by rw [hne]; simp
      obtain ⟨ra, rc, rfl⟩ := hR.out.slice
      obtain ⟨oa, oc, rfl⟩ := hO.out.slice
      clear hne
      go_wp2_with (at_builtin; refine wpList_sliceB rfl _ _ rfl wr.heap.size (.slice none 0 0) _ [] r rfl (OwnB.nil _ _) rfl (hR.out.kept hK.out) (by simp only [List.length_nil]; omega) (Nat.le_refl _) ?_)
      intro v1 w1 hz1 hg1
      have K1 := Lib.hid (kept_row (Kept.refl wr) hg1 (fun r hr => by simp [Value.ownBlock] at hr))
      have O1 := Lib.hid (show OwnB wr.heap.size v1 r w1 from hz1)
      have L1 := Lib.hid (OwnLs.kept hO.out K1.out)
      have KW1 := Lib.hid (hK.out.trans K1.out)
      obtain ⟨va1, vc1, hv1⟩ := own_slice O1.out
      subst hv1
      have kA := (Kept.refl w1).alloc (.cells #[.slice va1 (r).length vc1] 26)
      have L2 := Lib.hid (OwnLs.kept L1.out kA)
      have C2 := Lib.hid (show (w1.alloc (.cells #[.slice va1 (r).length vc1] 26)).cell? ⟨w1.heap.size, 0, none⟩ = some (.slice va1 (r).length vc1) from (Kept.refl _).new 0 rfl)
      have B2 := Lib.hid ((OwnB.rd O1.out).kept kA)
      have A2 := Lib.hid (OwnLs.apart L1.out O1.out)
      have KW2 := Lib.hid (KW1.out.trans kA)
      have hB2 := KW2.out.size
      have hnl : ls.length ≤ 10000000 := by have := hn.out; omega
      clear hz1 hg1 kA
      go_wp2_with (at_builtin; refine wpList_pushL rfl _ _ rfl w.heap.size _ ls (r) (.slice va1 (r).length vc1) w1.heap.size rfl L2.out rfl C2.out B2.out A2.out hnl hB2 ?_)
      intro v2 w2 hz2 hg2
      have K2 := Lib.hid (kept_row KW2.out hg2 (fun r hr => (OwnLs.lt L2.out r hr).1))
      have O2 := Lib.hid hz2
      obtain ⟨va2, vc2, hv2⟩ := OwnLs.slice hz2
      subst hv2
      clear hz2 hg2 L1 L2 C2 A2

      have HFF := Lib.hid (show (ls ++ [r]).flatten = b by rw [← hF.out]; simp)
      have HNN := Lib.hid (show (ls ++ [r]).length ≤ sz.length + 1 by have := hn.out; simp; omega)
      go_wp2
      go_ret
      exact ⟨_, ls ++ [r], rfl, O2.out.rd, fun r hr => (O2.out.lt r hr).1, HFF.out, HNN.out, K2.out⟩
    · obtain ⟨g, o, c, hv, hc⟩ := brd_addr hR.out hne
      subst hv
      obtain ⟨oa, oc, rfl⟩ := hO.out.slice
      have hpos := List.length_pos_iff.2 hne
      have hposI : (0 : Int) < r.length := by omega
      by_cases hlt : i < sz.length
      · have hltI : (i : Int) < sz.length := by omega
        obtain ⟨z, hz⟩ : ∃ z, sz[i]? = some z := ⟨_, List.getElem?_eq_getElem hlt⟩
        obtain ⟨gs, os, cs, hpv, hcs, p0⟩ := (HS.out.kept hK.out).at hz
        injection hpv with ea _ ec
        subst ea ec
        clear hz
        by_cases hz0 : z < 0
        · clear hltI
          have hltI : (i : Int) < sz.length := by omega
          have hlk : (r.take (r.length)).length = r.length ∧ (r.take (r.length)).length ≤ 1000000 := by simp; try omega
          have BT := Lib.hid (brd_to hR.out (r.length) (by omega))
          have HFF := Lib.hid (flat_app ls (r.take (r.length)) r b (r.length) hF.out rfl)
          obtain ⟨q, hq⟩ : ∃ q, q = r.take (r.length) := ⟨_, rfl⟩
          rw [← hq] at hlk BT HFF
          have hql := hlk.2
          have HLK := Lib.hid hlk.1
          clear hq hlk
          go_wp2_with (at_builtin; refine wpList_sliceB rfl _ _ rfl wr.heap.size (.slice none 0 0) _ [] q rfl (OwnB.nil _ _) rfl (BT.out.kept hK.out) (by simp only [List.length_nil]; omega) (Nat.le_refl _) ?_)
          intro v1 w1 hz1 hg1
          have K1 := Lib.hid (kept_row (Kept.refl wr) hg1 (fun r hr => by simp [Value.ownBlock] at hr))
          have O1 := Lib.hid (show OwnB wr.heap.size v1 q w1 from hz1)
          have L1 := Lib.hid (OwnLs.kept hO.out K1.out)
          have KW1 := Lib.hid (hK.out.trans K1.out)
          obtain ⟨va1, vc1, hv1⟩ := own_slice O1.out
          subst hv1
          have kA := (Kept.refl w1).alloc (.cells #[.slice va1 (q).length vc1] 26)
          have L2 := Lib.hid (OwnLs.kept L1.out kA)
          have C2 := Lib.hid (show (w1.alloc (.cells #[.slice va1 (q).length vc1] 26)).cell? ⟨w1.heap.size, 0, none⟩ = some (.slice va1 (q).length vc1) from (Kept.refl _).new 0 rfl)
          have B2 := Lib.hid ((OwnB.rd O1.out).kept kA)
          have A2 := Lib.hid (OwnLs.apart L1.out O1.out)
          have KW2 := Lib.hid (KW1.out.trans kA)
          have hB2 := KW2.out.size
          have hnl : ls.length ≤ 10000000 := by have := hn.out; omega
          clear hz1 hg1 kA
          go_wp2_with (at_builtin; refine wpList_pushL rfl _ _ rfl w.heap.size _ ls (q) (.slice va1 (q).length vc1) w1.heap.size rfl L2.out rfl C2.out B2.out A2.out hnl hB2 ?_)
          intro v2 w2 hz2 hg2
          have K2 := Lib.hid (kept_row KW2.out hg2 (fun r hr => (OwnLs.lt L2.out r hr).1))
          have O2 := Lib.hid hz2
          obtain ⟨va2, vc2, hv2⟩ := OwnLs.slice hz2
          subst hv2
          clear hz2 hg2 L1 L2 C2 A2

          have RF := Lib.hid (by have h := brd_from hR.out (r.length) (by omega) hc; (try rw [Nat.sub_self] at h); exact h)
          go_wp2
          go_roundw
          case rel => exact ⟨i + 1, ls ++ [q], r.drop (r.length), hlt, by go_num, RF, O2, HFF, Lib.hid (by have := hn.out; simp; omega), K2⟩
          case measure => simp [intOf]; omega
        by_cases hz1 : (r.length : Int) < z
        · have hlk : (r.take (r.length)).length = r.length ∧ (r.take (r.length)).length ≤ 1000000 := by simp; try omega
          have BT := Lib.hid (brd_to hR.out (r.length) (by omega))
          have HFF := Lib.hid (flat_app ls (r.take (r.length)) r b (r.length) hF.out rfl)
          obtain ⟨q, hq⟩ : ∃ q, q = r.take (r.length) := ⟨_, rfl⟩
          rw [← hq] at hlk BT HFF
          have hql := hlk.2
          have HLK := Lib.hid hlk.1
          clear hq hlk
          go_wp2_with (at_builtin; refine wpList_sliceB rfl _ _ rfl wr.heap.size (.slice none 0 0) _ [] q rfl (OwnB.nil _ _) rfl (BT.out.kept hK.out) (by simp only [List.length_nil]; omega) (Nat.le_refl _) ?_)
          intro v1 w1 hz1 hg1
          have K1 := Lib.hid (kept_row (Kept.refl wr) hg1 (fun r hr => by simp [Value.ownBlock] at hr))
          have O1 := Lib.hid (show OwnB wr.heap.size v1 q w1 from hz1)
          have L1 := Lib.hid (OwnLs.kept hO.out K1.out)
          have KW1 := Lib.hid (hK.out.trans K1.out)
          obtain ⟨va1, vc1, hv1⟩ := own_slice O1.out
          subst hv1
          have kA := (Kept.refl w1).alloc (.cells #[.slice va1 (q).length vc1] 26)
          have L2 := Lib.hid (OwnLs.kept L1.out kA)
          have C2 := Lib.hid (show (w1.alloc (.cells #[.slice va1 (q).length vc1] 26)).cell? ⟨w1.heap.size, 0, none⟩ = some (.slice va1 (q).length vc1) from (Kept.refl _).new 0 rfl)
          have B2 := Lib.hid ((OwnB.rd O1.out).kept kA)
          have A2 := Lib.hid (OwnLs.apart L1.out O1.out)
          have KW2 := Lib.hid (KW1.out.trans kA)
          have hB2 := KW2.out.size
          have hnl : ls.length ≤ 10000000 := by have := hn.out; omega
          clear hz1 hg1 kA
          go_wp2_with (at_builtin; refine wpList_pushL rfl _ _ rfl w.heap.size _ ls (q) (.slice va1 (q).length vc1) w1.heap.size rfl L2.out rfl C2.out B2.out A2.out hnl hB2 ?_)
          intro v2 w2 hz2 hg2
          have K2 := Lib.hid (kept_row KW2.out hg2 (fun r hr => (OwnLs.lt L2.out r hr).1))
          have O2 := Lib.hid hz2
          obtain ⟨va2, vc2, hv2⟩ := OwnLs.slice hz2
          subst hv2
          clear hz2 hg2 L1 L2 C2 A2

          have RF := Lib.hid (by have h := brd_from hR.out (r.length) (by omega) hc; (try rw [Nat.sub_self] at h); exact h)
          go_wp2
          go_roundw
          case rel => exact ⟨i + 1, ls ++ [q], r.drop (r.length), hlt, by go_num, RF, O2, HFF, Lib.hid (by have := hn.out; simp; omega), K2⟩
          case measure => simp [intOf]; omega
        · obtain ⟨k, rfl⟩ : ∃ k : Nat, z = k := ⟨z.toNat, by omega⟩
          have hk : k ≤ r.length := by omega
          have hkI : ¬ ((k : Int) < 0) := by omega
          have hkJ : ¬ ((r.length : Int) < (k : Int)) := by omega
          clear hz0 hz1
          have hlk : (r.take (k)).length = k ∧ (r.take (k)).length ≤ 1000000 := by simp; try omega
          have BT := Lib.hid (brd_to hR.out (k) (by omega))
          have HFF := Lib.hid (flat_app ls (r.take (k)) r b (k) hF.out rfl)
          obtain ⟨q, hq⟩ : ∃ q, q = r.take (k) := ⟨_, rfl⟩
          rw [← hq] at hlk BT HFF
          have hql := hlk.2
          have HLK := Lib.hid hlk.1
          clear hq hlk
          go_wp2_with (at_builtin; refine wpList_sliceB rfl _ _ rfl wr.heap.size (.slice none 0 0) _ [] q rfl (OwnB.nil _ _) rfl (BT.out.kept hK.out) (by simp only [List.length_nil]; omega) (Nat.le_refl _) ?_)
          intro v1 w1 hz1 hg1
          have K1 := Lib.hid (kept_row (Kept.refl wr) hg1 (fun r hr => by simp [Value.ownBlock] at hr))
          have O1 := Lib.hid (show OwnB wr.heap.size v1 q w1 from hz1)
          have L1 := Lib.hid (OwnLs.kept hO.out K1.out)
          have KW1 := Lib.hid (hK.out.trans K1.out)
          obtain ⟨va1, vc1, hv1⟩ := own_slice O1.out
          subst hv1
          have kA := (Kept.refl w1).alloc (.cells #[.slice va1 (q).length vc1] 26)
          have L2 := Lib.hid (OwnLs.kept L1.out kA)
          have C2 := Lib.hid (show (w1.alloc (.cells #[.slice va1 (q).length vc1] 26)).cell? ⟨w1.heap.size, 0, none⟩ = some (.slice va1 (q).length vc1) from (Kept.refl _).new 0 rfl)
          have B2 := Lib.hid ((OwnB.rd O1.out).kept kA)
          have A2 := Lib.hid (OwnLs.apart L1.out O1.out)
          have KW2 := Lib.hid (KW1.out.trans kA)
          have hB2 := KW2.out.size
          have hnl : ls.length ≤ 10000000 := by have := hn.out; omega
          clear hz1 hg1 kA
          go_wp2_with (at_builtin; refine wpList_pushL rfl _ _ rfl w.heap.size _ ls (q) (.slice va1 (q).length vc1) w1.heap.size rfl L2.out rfl C2.out B2.out A2.out hnl hB2 ?_)
          intro v2 w2 hz2 hg2
          have K2 := Lib.hid (kept_row KW2.out hg2 (fun r hr => (OwnLs.lt L2.out r hr).1))
          have O2 := Lib.hid hz2
          obtain ⟨va2, vc2, hv2⟩ := OwnLs.slice hz2
          subst hv2
          clear hz2 hg2 L1 L2 C2 A2

          have RF := Lib.hid (by have h := brd_from hR.out (k) (by omega) hc; (try rw [Nat.sub_self] at h); exact h)
          go_wp2
          go_roundw
          case rel => exact ⟨i + 1, ls ++ [q], r.drop (k), hlt, by go_num, RF, O2, HFF, Lib.hid (by have := hn.out; simp; omega), K2⟩
          case measure => simp [intOf]; omega
      · have hltI : ¬ (i : Int) < sz.length := by omega
        go_wp2_with (at_builtin; refine wpList_sliceB rfl _ _ rfl wr.heap.size (.slice none 0 0) _ [] r rfl (OwnB.nil _ _) rfl (hR.out.kept hK.out) (by simp only [List.length_nil]; omega) (Nat.le_refl _) ?_)
        intro v1 w1 hz1 hg1
        have K1 := Lib.hid (kept_row (Kept.refl wr) hg1 (fun r hr => by simp [Value.ownBlock] at hr))
        have O1 := Lib.hid (show OwnB wr.heap.size v1 r w1 from hz1)
        have L1 := Lib.hid (OwnLs.kept hO.out K1.out)
        have KW1 := Lib.hid (hK.out.trans K1.out)
        obtain ⟨va1, vc1, hv1⟩ := own_slice O1.out
        subst hv1
        have kA := (Kept.refl w1).alloc (.cells #[.slice va1 (r).length vc1] 26)
        have L2 := Lib.hid (OwnLs.kept L1.out kA)
        have C2 := Lib.hid (show (w1.alloc (.cells #[.slice va1 (r).length vc1] 26)).cell? ⟨w1.heap.size, 0, none⟩ = some (.slice va1 (r).length vc1) from (Kept.refl _).new 0 rfl)
        have B2 := Lib.hid ((OwnB.rd O1.out).kept kA)
        have A2 := Lib.hid (OwnLs.apart L1.out O1.out)
        have KW2 := Lib.hid (KW1.out.trans kA)
        have hB2 := KW2.out.size
        have hnl : ls.length ≤ 10000000 := by have := hn.out; omega
        clear hz1 hg1 kA
        go_wp2_with (at_builtin; refine wpList_pushL rfl _ _ rfl w.heap.size _ ls (r) (.slice va1 (r).length vc1) w1.heap.size rfl L2.out rfl C2.out B2.out A2.out hnl hB2 ?_)
        intro v2 w2 hz2 hg2
        have K2 := Lib.hid (kept_row KW2.out hg2 (fun r hr => (OwnLs.lt L2.out r hr).1))
        have O2 := Lib.hid hz2
        obtain ⟨va2, vc2, hv2⟩ := OwnLs.slice hz2
        subst hv2
        clear hz2 hg2 L1 L2 C2 A2

        have HFF := Lib.hid (show (ls ++ [r]).flatten = b by rw [← hF.out]; simp)
        have HNN := Lib.hid (show (ls ++ [r]).length ≤ sz.length + 1 by have := hn.out; simp; omega)
        go_wp2
        go_ret
        exact ⟨_, ls ++ [r], rfl, O2.out.rd, fun r hr => (O2.out.lt r hr).1, HFF.out, HNN.out, K2.out⟩
end Go.Proofs.YtdfmnjoklehifaaDoor.Bk.Rp
