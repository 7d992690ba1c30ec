/- Contracts of package zone: texts of rules and zones. -/
import Derived.Test.YtomnjdammfiadaaDoorZnText
namespace Go.Proofs.YtomnjdammfiadaaDoor
open Go.ChangeShapes Go.WideShapes Go.ChangeAt Go.RowKit
open Zn
theorem tt_len {n : Int} (h1 : -1000000 < n) (h2 : n < 1000000) : (tt n).length ≤ 10 := by
  have hU : ∀ u : Nat, u < 1000000 → (ttU u).length ≤ 9 := by
    intro u hu
    have := dec_len3 (n := (u : Int) / 3600) (by omega)
    rw [ttU_eq, List.length_append, List.length_append]
    have hM : (ttM u).length ≤ 3 := by unfold ttM; split <;> simp [d2]
    have hS : (ttS u).length ≤ 3 := by unfold ttS; split <;> simp [d2]
    omega
  unfold tt
  have := hU n.natAbs (by omega)
  split
  · simp only [List.length_cons]; omega
  · omega
theorem dec_len1 {n : Int} (h0 : 0 ≤ n) (h : n < 10) : (dec n).length = 1 := by rw [dec_one h0 h]; rfl
theorem dec_len2 {n : Int} (h0 : 10 ≤ n) (h : n < 100) : (dec n).length = 2 := by unfold dec; rw [Lib.decDigits_two (by omega) (by omega)]; rfl
set_option maxRecDepth 100000 in
set_option maxHeartbeats 2000000 in
theorem ruleText_0u (m x d : Int) (w : World) (d1 : 0 ≤ d) (d2 : d ≤ 365) (htab : Tab w) :
    Calls Tryd.prog 21 #[ruV ⟨0, m, x, d, 7200⟩] w fun e w' => e = .returned (.string ⟨([44] ++ [74] ++ dec d).toArray⟩) ∧ Kept w w' := by
  have l1 : (dec d).length ≤ 3 := dec_len3 (by omega)
  have HT := Lib.hid htab; clear htab
  go_enter Tryd.func21, Tryd.ntmps21
  go_wp2_with fail
  refine (itoa_int _ _ (by omega) (by omega) (((Kept.refl w).alloc _).tab' HT.out)).mono ?_
  rintro e w1 ⟨rfl, k1⟩
  have c4 := k1.new 4 rfl
  have kb := k1.back; clear k1
  go_wp2
  go_ret
  exact ⟨ret_str (by apply ByteArray.ext; simp [ByteArray.data_append]), kb⟩
set_option maxRecDepth 100000 in
set_option maxHeartbeats 2000000 in
theorem ruleText_0a (m x d : Int) (a : Int) (a0 : ¬ a = 7200) (a1 : -1000000 < a) (a2 : a < 1000000) (w : World) (d1 : 0 ≤ d) (d2 : d ≤ 365) (htab : Tab w) :
    Calls Tryd.prog 21 #[ruV ⟨0, m, x, d, a⟩] w fun e w' => e = .returned (.string ⟨([44] ++ [74] ++ dec d ++ (47 :: tt a)).toArray⟩) ∧ Kept w w' := by
  have l1 : (dec d).length ≤ 3 := dec_len3 (by omega)
  have HT := Lib.hid htab; clear htab
  have l2 : (tt a).length ≤ 10 := tt_len a1 a2
  go_enter Tryd.func21, Tryd.ntmps21
  go_wp2_with fail
  refine (itoa_int _ _ (by omega) (by omega) (((Kept.refl w).alloc _).tab' HT.out)).mono ?_
  rintro e w1 ⟨rfl, k1⟩
  have c4 := k1.new 4 rfl
  have kb := k1.back; clear k1
  go_wp2_with fail
  refine (timeText_any _ _ (by omega) (by omega) (kb.tab' HT.out)).mono ?_
  rintro e w2 ⟨rfl, k2⟩
  go_wp2
  go_ret
  exact ⟨ret_str (by apply ByteArray.ext; simp [ByteArray.data_append]), kb.trans k2⟩
set_option maxRecDepth 100000 in
set_option maxHeartbeats 2000000 in
theorem ruleText_1u (m x d : Int) (w : World) (d1 : 0 ≤ d) (d2 : d ≤ 365) (htab : Tab w) :
    Calls Tryd.prog 21 #[ruV ⟨1, m, x, d, 7200⟩] w fun e w' => e = .returned (.string ⟨([44] ++ dec d).toArray⟩) ∧ Kept w w' := by
  have l1 : (dec d).length ≤ 3 := dec_len3 (by omega)
  have HT := Lib.hid htab; clear htab
  go_enter Tryd.func21, Tryd.ntmps21
  go_wp2_with fail
  refine (itoa_int _ _ (by omega) (by omega) (((Kept.refl w).alloc _).tab' HT.out)).mono ?_
  rintro e w1 ⟨rfl, k1⟩
  have c4 := k1.new 4 rfl
  have kb := k1.back; clear k1
  go_wp2
  go_ret
  exact ⟨ret_str (by apply ByteArray.ext; simp [ByteArray.data_append]), kb⟩
set_option maxRecDepth 100000 in
set_option maxHeartbeats 2000000 in
theorem ruleText_1a (m x d : Int) (a : Int) (a0 : ¬ a = 7200) (a1 : -1000000 < a) (a2 : a < 1000000) (w : World) (d1 : 0 ≤ d) (d2 : d ≤ 365) (htab : Tab w) :
    Calls Tryd.prog 21 #[ruV ⟨1, m, x, d, a⟩] w fun e w' => e = .returned (.string ⟨([44] ++ dec d ++ (47 :: tt a)).toArray⟩) ∧ Kept w w' := by
  have l1 : (dec d).length ≤ 3 := dec_len3 (by omega)
  have HT := Lib.hid htab; clear htab
  have l2 : (tt a).length ≤ 10 := tt_len a1 a2
  go_enter Tryd.func21, Tryd.ntmps21
  go_wp2_with fail
  refine (itoa_int _ _ (by omega) (by omega) (((Kept.refl w).alloc _).tab' HT.out)).mono ?_
  rintro e w1 ⟨rfl, k1⟩
  have c4 := k1.new 4 rfl
  have kb := k1.back; clear k1
  go_wp2_with fail
  refine (timeText_any _ _ (by omega) (by omega) (kb.tab' HT.out)).mono ?_
  rintro e w2 ⟨rfl, k2⟩
  go_wp2
  go_ret
  exact ⟨ret_str (by apply ByteArray.ext; simp [ByteArray.data_append]), kb.trans k2⟩
set_option maxRecDepth 100000 in
set_option maxHeartbeats 2000000 in
theorem ruleText_2u (m x d : Int) (w : World) (m1 : 0 ≤ m) (m2 : m < 10) (x1 : 0 ≤ x) (x2 : x ≤ 5) (d1 : 0 ≤ d) (d2 : d ≤ 365) (htab : Tab w) :
    Calls Tryd.prog 21 #[ruV ⟨2, m, x, d, 7200⟩] w fun e w' => e = .returned (.string ⟨([44] ++ (77 :: (dec m ++ 46 :: (dec x ++ [46]))) ++ dec d).toArray⟩) ∧ Kept w w' := by
  have l1 : (dec d).length ≤ 3 := dec_len3 (by omega)
  have HT := Lib.hid htab; clear htab
  have l3 : (dec m).length = 1 := dec_len1 (by omega) (by omega)
  have l4 : (dec x).length = 1 := dec_len1 (by omega) (by omega)
  have k0 := Kept.refl (w.alloc (.cells #[.int .i64 2, .int .i64 m, .int .i64 x, .int .i64 d, .int .i64 7200] 23))
  have e1 := k0.new 1 rfl
  have e2 := k0.new 2 rfl
  have e3 := k0.new 3 rfl
  have e4 := k0.new 4 rfl
  have kw := k0.back
  have ht := Lib.hid (kw.tab' HT.out)
  have hb := Lib.hid (show w.heap.size < (w.alloc (.cells #[.int .i64 2, .int .i64 m, .int .i64 x, .int .i64 d, .int .i64 7200] 23)).heap.size by simp)
  go_enter Tryd.func21, Tryd.ntmps21
  go_wp2_with fail
  generalize w.alloc (.cells #[.int .i64 2, .int .i64 m, .int .i64 x, .int .i64 d, .int .i64 7200] 23) = W at *
  go_region_held3 (fun y => y.cell? ⟨w.heap.size, 1, none⟩ = some (.int .i64 m) ∧ y.cell? ⟨w.heap.size, 2, none⟩ = some (.int .i64 x)) (first | exact ⟨e1, e2⟩ | assumption)
    (first | (go_at_call 38; refine (itoa_small _ _ (by omega) (by omega)).mono ?_; rintro e w' ⟨rfl, rfl⟩))
  go_wp2_with fail
  refine (itoa_int _ _ (by omega) (by omega) ((Kept.refl W).drew.tab' ht.out)).mono ?_
  rintro e w1 ⟨rfl, k1⟩
  have c4 := (k1.cell (a := ⟨w.heap.size, 4, none⟩) hb.out).trans e4
  have kb := kw.trans ((Kept.refl W).drew.trans k1); clear k1 e1 e2 e3 e4 k0 kw
  go_wp2
  go_ret
  exact ⟨ret_str (by apply ByteArray.ext; simp [ByteArray.data_append]), kb⟩
set_option maxRecDepth 100000 in
set_option maxHeartbeats 2000000 in
theorem ruleText_2a (m x d : Int) (a : Int) (a0 : ¬ a = 7200) (a1 : -1000000 < a) (a2 : a < 1000000) (w : World) (m1 : 0 ≤ m) (m2 : m < 10) (x1 : 0 ≤ x) (x2 : x ≤ 5) (d1 : 0 ≤ d) (d2 : d ≤ 365) (htab : Tab w) :
    Calls Tryd.prog 21 #[ruV ⟨2, m, x, d, a⟩] w fun e w' => e = .returned (.string ⟨([44] ++ (77 :: (dec m ++ 46 :: (dec x ++ [46]))) ++ dec d ++ (47 :: tt a)).toArray⟩) ∧ Kept w w' := by
  have l1 : (dec d).length ≤ 3 := dec_len3 (by omega)
  have HT := Lib.hid htab; clear htab
  have l2 : (tt a).length ≤ 10 := tt_len a1 a2
  have l3 : (dec m).length = 1 := dec_len1 (by omega) (by omega)
  have l4 : (dec x).length = 1 := dec_len1 (by omega) (by omega)
  have k0 := Kept.refl (w.alloc (.cells #[.int .i64 2, .int .i64 m, .int .i64 x, .int .i64 d, .int .i64 a] 23))
  have e1 := k0.new 1 rfl
  have e2 := k0.new 2 rfl
  have e3 := k0.new 3 rfl
  have e4 := k0.new 4 rfl
  have kw := k0.back
  have ht := Lib.hid (kw.tab' HT.out)
  have hb := Lib.hid (show w.heap.size < (w.alloc (.cells #[.int .i64 2, .int .i64 m, .int .i64 x, .int .i64 d, .int .i64 a] 23)).heap.size by simp)
  go_enter Tryd.func21, Tryd.ntmps21
  go_wp2_with fail
  generalize w.alloc (.cells #[.int .i64 2, .int .i64 m, .int .i64 x, .int .i64 d, .int .i64 a] 23) = W at *
  go_region_held3 (fun y => y.cell? ⟨w.heap.size, 1, none⟩ = some (.int .i64 m) ∧ y.cell? ⟨w.heap.size, 2, none⟩ = some (.int .i64 x)) (first | exact ⟨e1, e2⟩ | assumption)
    (first | (go_at_call 38; refine (itoa_small _ _ (by omega) (by omega)).mono ?_; rintro e w' ⟨rfl, rfl⟩))
  go_wp2_with fail
  refine (itoa_int _ _ (by omega) (by omega) ((Kept.refl W).drew.tab' ht.out)).mono ?_
  rintro e w1 ⟨rfl, k1⟩
  have c4 := (k1.cell (a := ⟨w.heap.size, 4, none⟩) hb.out).trans e4
  have kb := kw.trans ((Kept.refl W).drew.trans k1); clear k1 e1 e2 e3 e4 k0 kw
  go_wp2_with fail
  refine (timeText_any _ _ (by omega) (by omega) (kb.tab' HT.out)).mono ?_
  rintro e w2 ⟨rfl, k2⟩
  go_wp2
  go_ret
  exact ⟨ret_str (by apply ByteArray.ext; simp [ByteArray.data_append]), kb.trans k2⟩
set_option maxRecDepth 100000 in
set_option maxHeartbeats 2000000 in
theorem ruleText_3u (m x d : Int) (w : World) (m1 : 10 ≤ m) (m2 : m ≤ 12) (x1 : 0 ≤ x) (x2 : x ≤ 5) (d1 : 0 ≤ d) (d2 : d ≤ 365) (htab : Tab w) :
    Calls Tryd.prog 21 #[ruV ⟨2, m, x, d, 7200⟩] w fun e w' => e = .returned (.string ⟨([44] ++ (77 :: (dec m ++ 46 :: (dec x ++ [46]))) ++ dec d).toArray⟩) ∧ Kept w w' := by
  have l1 : (dec d).length ≤ 3 := dec_len3 (by omega)
  have HT := Lib.hid htab; clear htab
  have l3 : (dec m).length = 2 := dec_len2 (by omega) (by omega)
  have l4 : (dec x).length = 1 := dec_len1 (by omega) (by omega)
  have k0 := Kept.refl (w.alloc (.cells #[.int .i64 2, .int .i64 m, .int .i64 x, .int .i64 d, .int .i64 7200] 23))
  have e1 := k0.new 1 rfl
  have e2 := k0.new 2 rfl
  have e3 := k0.new 3 rfl
  have e4 := k0.new 4 rfl
  have kw := k0.back
  have ht := Lib.hid (kw.tab' HT.out)
  have hb := Lib.hid (show w.heap.size < (w.alloc (.cells #[.int .i64 2, .int .i64 m, .int .i64 x, .int .i64 d, .int .i64 7200] 23)).heap.size by simp)
  go_enter Tryd.func21, Tryd.ntmps21
  go_wp2_with fail
  generalize w.alloc (.cells #[.int .i64 2, .int .i64 m, .int .i64 x, .int .i64 d, .int .i64 7200] 23) = W at *
  go_region_held3 (fun y => y.cell? ⟨w.heap.size, 1, none⟩ = some (.int .i64 m) ∧ y.cell? ⟨w.heap.size, 2, none⟩ = some (.int .i64 x)) (first | exact ⟨e1, e2⟩ | assumption)
    (first | (go_at_call 38; refine (itoa_small _ _ (by omega) (by omega)).mono ?_; rintro e w' ⟨rfl, rfl⟩))
  go_wp2_with fail
  refine (itoa_int _ _ (by omega) (by omega) ((Kept.refl W).drew.tab' ht.out)).mono ?_
  rintro e w1 ⟨rfl, k1⟩
  have c4 := (k1.cell (a := ⟨w.heap.size, 4, none⟩) hb.out).trans e4
  have kb := kw.trans ((Kept.refl W).drew.trans k1); clear k1 e1 e2 e3 e4 k0 kw
  go_wp2
  go_ret
  exact ⟨ret_str (by apply ByteArray.ext; simp [ByteArray.data_append]), kb⟩
set_option maxRecDepth 100000 in
set_option maxHeartbeats 2000000 in
theorem ruleText_3a (m x d : Int) (a : Int) (a0 : ¬ a = 7200) (a1 : -1000000 < a) (a2 : a < 1000000) (w : World) (m1 : 10 ≤ m) (m2 : m ≤ 12) (x1 : 0 ≤ x) (x2 : x ≤ 5) (d1 : 0 ≤ d) (d2 : d ≤ 365) (htab : Tab w) :
    Calls Tryd.prog 21 #[ruV ⟨2, m, x, d, a⟩] w fun e w' => e = .returned (.string ⟨([44] ++ (77 :: (dec m ++ 46 :: (dec x ++ [46]))) ++ dec d ++ (47 :: tt a)).toArray⟩) ∧ Kept w w' := by
  have l1 : (dec d).length ≤ 3 := dec_len3 (by omega)
  have HT := Lib.hid htab; clear htab
  have l2 : (tt a).length ≤ 10 := tt_len a1 a2
  have l3 : (dec m).length = 2 := dec_len2 (by omega) (by omega)
  have l4 : (dec x).length = 1 := dec_len1 (by omega) (by omega)
  have k0 := Kept.refl (w.alloc (.cells #[.int .i64 2, .int .i64 m, .int .i64 x, .int .i64 d, .int .i64 a] 23))
  have e1 := k0.new 1 rfl
  have e2 := k0.new 2 rfl
  have e3 := k0.new 3 rfl
  have e4 := k0.new 4 rfl
  have kw := k0.back
  have ht := Lib.hid (kw.tab' HT.out)
  have hb := Lib.hid (show w.heap.size < (w.alloc (.cells #[.int .i64 2, .int .i64 m, .int .i64 x, .int .i64 d, .int .i64 a] 23)).heap.size by simp)
  go_enter Tryd.func21, Tryd.ntmps21
  go_wp2_with fail
  generalize w.alloc (.cells #[.int .i64 2, .int .i64 m, .int .i64 x, .int .i64 d, .int .i64 a] 23) = W at *
  go_region_held3 (fun y => y.cell? ⟨w.heap.size, 1, none⟩ = some (.int .i64 m) ∧ y.cell? ⟨w.heap.size, 2, none⟩ = some (.int .i64 x)) (first | exact ⟨e1, e2⟩ | assumption)
    (first | (go_at_call 38; refine (itoa_small _ _ (by omega) (by omega)).mono ?_; rintro e w' ⟨rfl, rfl⟩))
  go_wp2_with fail
  refine (itoa_int _ _ (by omega) (by omega) ((Kept.refl W).drew.tab' ht.out)).mono ?_
  rintro e w1 ⟨rfl, k1⟩
  have c4 := (k1.cell (a := ⟨w.heap.size, 4, none⟩) hb.out).trans e4
  have kb := kw.trans ((Kept.refl W).drew.trans k1); clear k1 e1 e2 e3 e4 k0 kw
  go_wp2_with fail
  refine (timeText_any _ _ (by omega) (by omega) (kb.tab' HT.out)).mono ?_
  rintro e w2 ⟨rfl, k2⟩
  go_wp2
  go_ret
  exact ⟨ret_str (by apply ByteArray.ext; simp [ByteArray.data_append]), kb.trans k2⟩
theorem ruleText_any (r : Ru) (w : World) (h : mayR r = true) (htab : Tab w) :
    Calls Tryd.prog 21 #[ruV r] w fun e w' => e = .returned (.string ⟨(rt r).toArray⟩) ∧ Kept w w' := by
  obtain ⟨k, m, x, d, a⟩ := r
  simp only [mayR, decide_eq_true_eq] at h
  obtain ⟨a1, a2, h⟩ := h
  unfold rt rtK rtA
  simp only
  by_cases e : a = 7200
  · subst e
    rw [if_pos rfl, List.append_nil]
    rcases h with ⟨rfl, d1, d2, rfl, rfl⟩ | ⟨rfl, d1, d2, rfl, rfl⟩ | ⟨rfl, m1, m2, w1, w2, d1, d2⟩
    · exact ruleText_0u _ _ _ _ (by omega) (by omega) htab
    · exact ruleText_1u _ _ _ _ (by omega) (by omega) htab
    · by_cases hm : m < 10
      · exact ruleText_2u _ _ _ _ (by omega) hm (by omega) (by omega) (by omega) (by omega) htab
      · exact ruleText_3u _ _ _ _ (by omega) m2 (by omega) (by omega) (by omega) (by omega) htab
  · rw [if_neg e]
    rcases h with ⟨rfl, d1, d2, rfl, rfl⟩ | ⟨rfl, d1, d2, rfl, rfl⟩ | ⟨rfl, m1, m2, w1, w2, d1, d2⟩
    · exact ruleText_0a _ _ _ _ e (by omega) (by omega) _ (by omega) (by omega) htab
    · exact ruleText_1a _ _ _ _ e (by omega) (by omega) _ (by omega) (by omega) htab
    · by_cases hm : m < 10
      · exact ruleText_2a _ _ _ _ e (by omega) (by omega) _ (by omega) hm (by omega) (by omega) (by omega) (by omega) htab
      · exact ruleText_3a _ _ _ _ e (by omega) (by omega) _ (by omega) m2 (by omega) (by omega) (by omega) (by omega) htab
end Go.Proofs.YtomnjdammfiadaaDoor
