/- Contracts of the document's answer for zones: a rule's text. -/
import Derived.Test.YtomnjdammfiadaaDoorZnRefN
namespace Go.Proofs.YtomnjdammfiadaaDoor
open Go.ChangeShapes Go.WideShapes Go.ChangeAt Go.RowKit
open Zn
def rr (r : Ru) : List UInt8 := rtK r ++ dec r.d ++ rtA r
theorem rt_rr (r : Ru) : rt r = 44 :: rr r := rfl
set_option maxRecDepth 100000 in
set_option maxHeartbeats 2000000 in
theorem rrule_0u (m x d : Int) (w : World) (d1 : 0 ≤ d) (_d2 : d ≤ 365) :
    Calls Tryd.prog 24 #[ruV ⟨0, m, x, d, 7200⟩] w fun e w' => e = .returned (.string ⟨([74] ++ dec d).toArray⟩) ∧ Kept w w' := by
  have l1 : (dec d).length ≤ 3 := dec_len3 (by omega)
  have k0 := Kept.refl (w.alloc (.cells #[.int .i64 0, .int .i64 m, .int .i64 x, .int .i64 d, .int .i64 7200] 23))
  have e0 := k0.new 0 rfl
  have e1 := k0.new 1 rfl
  have e2 := k0.new 2 rfl
  have e3 := k0.new 3 rfl
  have e4 := k0.new 4 rfl
  have kw := k0.back
  go_enter Tryd.func24, Tryd.ntmps24
  go_wp2_with fail
  generalize w.alloc (.cells #[.int .i64 0, .int .i64 m, .int .i64 x, .int .i64 d, .int .i64 7200] 23) = W at *
  refine (rNumber_any _ _ (by omega) (by omega)).mono ?_
  rintro e w1 ⟨rfl, rfl⟩
  go_wp2
  go_ret
  exact ⟨ret_str (by apply ByteArray.ext; simp [ByteArray.data_append]), kw⟩
set_option maxRecDepth 100000 in
set_option maxHeartbeats 2000000 in
theorem rrule_0a (m x d : Int) (a : Int) (a0 : ¬ a = 7200) (a1 : -1000000 < a) (a2 : a < 1000000) (w : World) (d1 : 0 ≤ d) (_d2 : d ≤ 365) :
    Calls Tryd.prog 24 #[ruV ⟨0, m, x, d, a⟩] w fun e w' => e = .returned (.string ⟨([74] ++ dec d ++ (47 :: tt a)).toArray⟩) ∧ Kept w w' := by
  have l1 : (dec d).length ≤ 3 := dec_len3 (by omega)
  have l2 : (tt a).length ≤ 10 := tt_len a1 a2
  have k0 := Kept.refl (w.alloc (.cells #[.int .i64 0, .int .i64 m, .int .i64 x, .int .i64 d, .int .i64 a] 23))
  have e0 := k0.new 0 rfl
  have e1 := k0.new 1 rfl
  have e2 := k0.new 2 rfl
  have e3 := k0.new 3 rfl
  have e4 := k0.new 4 rfl
  have kw := k0.back
  go_enter Tryd.func24, Tryd.ntmps24
  go_wp2_with fail
  generalize w.alloc (.cells #[.int .i64 0, .int .i64 m, .int .i64 x, .int .i64 d, .int .i64 a] 23) = W at *
  refine (rNumber_any _ _ (by omega) (by omega)).mono ?_
  rintro e w1 ⟨rfl, rfl⟩
  go_wp2_with fail
  refine (rTime_any _ _ (by omega) (by omega)).mono ?_
  rintro e w2 ⟨rfl, rfl⟩
  go_wp2
  go_ret
  exact ⟨ret_str (by apply ByteArray.ext; simp [ByteArray.data_append]), kw⟩
set_option maxRecDepth 100000 in
set_option maxHeartbeats 2000000 in
theorem rrule_1u (m x d : Int) (w : World) (d1 : 0 ≤ d) (_d2 : d ≤ 365) :
    Calls Tryd.prog 24 #[ruV ⟨1, m, x, d, 7200⟩] w fun e w' => e = .returned (.string ⟨(dec d).toArray⟩) ∧ Kept w w' := by
  have l1 : (dec d).length ≤ 3 := dec_len3 (by omega)
  have k0 := Kept.refl (w.alloc (.cells #[.int .i64 1, .int .i64 m, .int .i64 x, .int .i64 d, .int .i64 7200] 23))
  have e0 := k0.new 0 rfl
  have e1 := k0.new 1 rfl
  have e2 := k0.new 2 rfl
  have e3 := k0.new 3 rfl
  have e4 := k0.new 4 rfl
  have kw := k0.back
  go_enter Tryd.func24, Tryd.ntmps24
  go_wp2_with fail
  generalize w.alloc (.cells #[.int .i64 1, .int .i64 m, .int .i64 x, .int .i64 d, .int .i64 7200] 23) = W at *
  refine (rNumber_any _ _ (by omega) (by omega)).mono ?_
  rintro e w1 ⟨rfl, rfl⟩
  go_wp2
  go_ret
  exact ⟨ret_str (by rfl), kw⟩
set_option maxRecDepth 100000 in
set_option maxHeartbeats 2000000 in
theorem rrule_1a (m x d : Int) (a : Int) (a0 : ¬ a = 7200) (a1 : -1000000 < a) (a2 : a < 1000000) (w : World) (d1 : 0 ≤ d) (_d2 : d ≤ 365) :
    Calls Tryd.prog 24 #[ruV ⟨1, m, x, d, a⟩] w fun e w' => e = .returned (.string ⟨(dec d ++ (47 :: tt a)).toArray⟩) ∧ Kept w w' := by
  have l1 : (dec d).length ≤ 3 := dec_len3 (by omega)
  have l2 : (tt a).length ≤ 10 := tt_len a1 a2
  have k0 := Kept.refl (w.alloc (.cells #[.int .i64 1, .int .i64 m, .int .i64 x, .int .i64 d, .int .i64 a] 23))
  have e0 := k0.new 0 rfl
  have e1 := k0.new 1 rfl
  have e2 := k0.new 2 rfl
  have e3 := k0.new 3 rfl
  have e4 := k0.new 4 rfl
  have kw := k0.back
  go_enter Tryd.func24, Tryd.ntmps24
  go_wp2_with fail
  generalize w.alloc (.cells #[.int .i64 1, .int .i64 m, .int .i64 x, .int .i64 d, .int .i64 a] 23) = W at *
  refine (rNumber_any _ _ (by omega) (by omega)).mono ?_
  rintro e w1 ⟨rfl, rfl⟩
  go_wp2_with fail
  refine (rTime_any _ _ (by omega) (by omega)).mono ?_
  rintro e w2 ⟨rfl, rfl⟩
  go_wp2
  go_ret
  exact ⟨ret_str (by apply ByteArray.ext; simp [ByteArray.data_append]), kw⟩
set_option maxRecDepth 100000 in
set_option maxHeartbeats 2000000 in
theorem rrule_2u (m x d : Int) (w : World) (m1 : 0 ≤ m) (m2 : m < 10) (x1 : 0 ≤ x) (x2 : x ≤ 5) (d3 : d ≤ 6) (d1 : 0 ≤ d) (_d2 : d ≤ 365) :
    Calls Tryd.prog 24 #[ruV ⟨2, m, x, d, 7200⟩] w fun e w' => e = .returned (.string ⟨((77 :: (dec m ++ 46 :: (dec x ++ [46]))) ++ dec d).toArray⟩) ∧ Kept w w' := by
  have l1 : (dec d).length = 1 := dec_len1 (by omega) (by omega)
  have k0 := Kept.refl (w.alloc (.cells #[.int .i64 2, .int .i64 m, .int .i64 x, .int .i64 d, .int .i64 7200] 23))
  have e0 := k0.new 0 rfl
  have e1 := k0.new 1 rfl
  have e2 := k0.new 2 rfl
  have e3 := k0.new 3 rfl
  have e4 := k0.new 4 rfl
  have kw := k0.back
  have l3 : (dec m).length = 1 := dec_len1 (by omega) (by omega)
  have l4 : (dec x).length = 1 := dec_len1 (by omega) (by omega)
  go_enter Tryd.func24, Tryd.ntmps24
  go_wp2_with fail
  generalize w.alloc (.cells #[.int .i64 2, .int .i64 m, .int .i64 x, .int .i64 d, .int .i64 7200] 23) = W at *
  go_region_held3 (fun y => Kept w y ∧ y.cell? ⟨w.heap.size, 1, none⟩ = some (.int .i64 m) ∧ y.cell? ⟨w.heap.size, 2, none⟩ = some (.int .i64 x) ∧ y.cell? ⟨w.heap.size, 3, none⟩ = some (.int .i64 d)) (first | exact ⟨kw.drew, e1, e2, e3⟩ | assumption)
    (first | (go_at_call 16; refine (rNumber_any _ _ (by omega) (by omega)).mono ?_; rintro e w' ⟨rfl, rfl⟩))
  have f4 : W.drew.cell? ⟨w.heap.size, 4, none⟩ = some (.int .i64 7200) := e4
  go_wp2
  go_ret
  exact ⟨ret_str (by apply ByteArray.ext; simp [ByteArray.data_append]), kw.drew⟩
set_option maxRecDepth 100000 in
set_option maxHeartbeats 2000000 in
theorem rrule_2a (m x d : Int) (a : Int) (a0 : ¬ a = 7200) (a1 : -1000000 < a) (a2 : a < 1000000) (w : World) (m1 : 0 ≤ m) (m2 : m < 10) (x1 : 0 ≤ x) (x2 : x ≤ 5) (d3 : d ≤ 6) (d1 : 0 ≤ d) (_d2 : d ≤ 365) :
    Calls Tryd.prog 24 #[ruV ⟨2, m, x, d, a⟩] w fun e w' => e = .returned (.string ⟨((77 :: (dec m ++ 46 :: (dec x ++ [46]))) ++ dec d ++ (47 :: tt a)).toArray⟩) ∧ Kept w w' := by
  have l1 : (dec d).length = 1 := dec_len1 (by omega) (by omega)
  have l2 : (tt a).length ≤ 10 := tt_len a1 a2
  have k0 := Kept.refl (w.alloc (.cells #[.int .i64 2, .int .i64 m, .int .i64 x, .int .i64 d, .int .i64 a] 23))
  have e0 := k0.new 0 rfl
  have e1 := k0.new 1 rfl
  have e2 := k0.new 2 rfl
  have e3 := k0.new 3 rfl
  have e4 := k0.new 4 rfl
  have kw := k0.back
  have l3 : (dec m).length = 1 := dec_len1 (by omega) (by omega)
  have l4 : (dec x).length = 1 := dec_len1 (by omega) (by omega)
  go_enter Tryd.func24, Tryd.ntmps24
  go_wp2_with fail
  generalize w.alloc (.cells #[.int .i64 2, .int .i64 m, .int .i64 x, .int .i64 d, .int .i64 a] 23) = W at *
  go_region_held3 (fun y => Kept w y ∧ y.cell? ⟨w.heap.size, 1, none⟩ = some (.int .i64 m) ∧ y.cell? ⟨w.heap.size, 2, none⟩ = some (.int .i64 x) ∧ y.cell? ⟨w.heap.size, 3, none⟩ = some (.int .i64 d)) (first | exact ⟨kw.drew, e1, e2, e3⟩ | assumption)
    (first | (go_at_call 16; refine (rNumber_any _ _ (by omega) (by omega)).mono ?_; rintro e w' ⟨rfl, rfl⟩))
  have f4 : W.drew.cell? ⟨w.heap.size, 4, none⟩ = some (.int .i64 a) := e4
  go_wp2_with fail
  refine (rTime_any _ _ (by omega) (by omega)).mono ?_
  rintro e w2 ⟨rfl, rfl⟩
  go_wp2
  go_ret
  exact ⟨ret_str (by apply ByteArray.ext; simp [ByteArray.data_append]), kw.drew⟩
set_option maxRecDepth 100000 in
set_option maxHeartbeats 2000000 in
theorem rrule_3u (m x d : Int) (w : World) (m1 : 10 ≤ m) (m2 : m ≤ 12) (x1 : 0 ≤ x) (x2 : x ≤ 5) (d3 : d ≤ 6) (d1 : 0 ≤ d) (_d2 : d ≤ 365) :
    Calls Tryd.prog 24 #[ruV ⟨2, m, x, d, 7200⟩] w fun e w' => e = .returned (.string ⟨((77 :: (dec m ++ 46 :: (dec x ++ [46]))) ++ dec d).toArray⟩) ∧ Kept w w' := by
  have l1 : (dec d).length = 1 := dec_len1 (by omega) (by omega)
  have k0 := Kept.refl (w.alloc (.cells #[.int .i64 2, .int .i64 m, .int .i64 x, .int .i64 d, .int .i64 7200] 23))
  have e0 := k0.new 0 rfl
  have e1 := k0.new 1 rfl
  have e2 := k0.new 2 rfl
  have e3 := k0.new 3 rfl
  have e4 := k0.new 4 rfl
  have kw := k0.back
  have l3 : (dec m).length = 2 := dec_len2 (by omega) (by omega)
  have l4 : (dec x).length = 1 := dec_len1 (by omega) (by omega)
  go_enter Tryd.func24, Tryd.ntmps24
  go_wp2_with fail
  generalize w.alloc (.cells #[.int .i64 2, .int .i64 m, .int .i64 x, .int .i64 d, .int .i64 7200] 23) = W at *
  go_region_held3 (fun y => Kept w y ∧ y.cell? ⟨w.heap.size, 1, none⟩ = some (.int .i64 m) ∧ y.cell? ⟨w.heap.size, 2, none⟩ = some (.int .i64 x) ∧ y.cell? ⟨w.heap.size, 3, none⟩ = some (.int .i64 d)) (first | exact ⟨kw.drew, e1, e2, e3⟩ | assumption)
    (first | (go_at_call 16; refine (rNumber_any _ _ (by omega) (by omega)).mono ?_; rintro e w' ⟨rfl, rfl⟩))
  have f4 : W.drew.cell? ⟨w.heap.size, 4, none⟩ = some (.int .i64 7200) := e4
  go_wp2
  go_ret
  exact ⟨ret_str (by apply ByteArray.ext; simp [ByteArray.data_append]), kw.drew⟩
set_option maxRecDepth 100000 in
set_option maxHeartbeats 2000000 in
theorem rrule_3a (m x d : Int) (a : Int) (a0 : ¬ a = 7200) (a1 : -1000000 < a) (a2 : a < 1000000) (w : World) (m1 : 10 ≤ m) (m2 : m ≤ 12) (x1 : 0 ≤ x) (x2 : x ≤ 5) (d3 : d ≤ 6) (d1 : 0 ≤ d) (_d2 : d ≤ 365) :
    Calls Tryd.prog 24 #[ruV ⟨2, m, x, d, a⟩] w fun e w' => e = .returned (.string ⟨((77 :: (dec m ++ 46 :: (dec x ++ [46]))) ++ dec d ++ (47 :: tt a)).toArray⟩) ∧ Kept w w' := by
  have l1 : (dec d).length = 1 := dec_len1 (by omega) (by omega)
  have l2 : (tt a).length ≤ 10 := tt_len a1 a2
  have k0 := Kept.refl (w.alloc (.cells #[.int .i64 2, .int .i64 m, .int .i64 x, .int .i64 d, .int .i64 a] 23))
  have e0 := k0.new 0 rfl
  have e1 := k0.new 1 rfl
  have e2 := k0.new 2 rfl
  have e3 := k0.new 3 rfl
  have e4 := k0.new 4 rfl
  have kw := k0.back
  have l3 : (dec m).length = 2 := dec_len2 (by omega) (by omega)
  have l4 : (dec x).length = 1 := dec_len1 (by omega) (by omega)
  go_enter Tryd.func24, Tryd.ntmps24
  go_wp2_with fail
  generalize w.alloc (.cells #[.int .i64 2, .int .i64 m, .int .i64 x, .int .i64 d, .int .i64 a] 23) = W at *
  go_region_held3 (fun y => Kept w y ∧ y.cell? ⟨w.heap.size, 1, none⟩ = some (.int .i64 m) ∧ y.cell? ⟨w.heap.size, 2, none⟩ = some (.int .i64 x) ∧ y.cell? ⟨w.heap.size, 3, none⟩ = some (.int .i64 d)) (first | exact ⟨kw.drew, e1, e2, e3⟩ | assumption)
    (first | (go_at_call 16; refine (rNumber_any _ _ (by omega) (by omega)).mono ?_; rintro e w' ⟨rfl, rfl⟩))
  have f4 : W.drew.cell? ⟨w.heap.size, 4, none⟩ = some (.int .i64 a) := e4
  go_wp2_with fail
  refine (rTime_any _ _ (by omega) (by omega)).mono ?_
  rintro e w2 ⟨rfl, rfl⟩
  go_wp2
  go_ret
  exact ⟨ret_str (by apply ByteArray.ext; simp [ByteArray.data_append]), kw.drew⟩
theorem rrule_any (r : Ru) (w : World) (h : mayR r = true) :
    Calls Tryd.prog 24 #[ruV r] w fun e w' => e = .returned (.string ⟨(rr r).toArray⟩) ∧ Kept w w' := by
  obtain ⟨k, m, x, d, a⟩ := r
  simp only [mayR, decide_eq_true_eq] at h
  obtain ⟨a1, a2, h⟩ := h
  unfold rr rtK rtA
  simp only
  by_cases e : a = 7200
  · subst e
    rw [if_pos rfl, List.append_nil]
    rcases h with ⟨rfl, d1, d2, rfl, rfl⟩ | ⟨rfl, d1, d2, rfl, rfl⟩ | ⟨rfl, m1, m2, w1, w2, d1, d2⟩
    · exact rrule_0u _ _ _ _ (by omega) (by omega)
    · exact rrule_1u _ _ _ _ (by omega) (by omega)
    · by_cases hm : m < 10
      · exact rrule_2u _ _ _ _ (by omega) hm (by omega) (by omega) d2 (by omega) (by omega)
      · exact rrule_3u _ _ _ _ (by omega) m2 (by omega) (by omega) d2 (by omega) (by omega)
  · rw [if_neg e]
    rcases h with ⟨rfl, d1, d2, rfl, rfl⟩ | ⟨rfl, d1, d2, rfl, rfl⟩ | ⟨rfl, m1, m2, w1, w2, d1, d2⟩
    · exact rrule_0a _ _ _ _ e (by omega) (by omega) _ (by omega) (by omega)
    · exact rrule_1a _ _ _ _ e (by omega) (by omega) _ (by omega) (by omega)
    · by_cases hm : m < 10
      · exact rrule_2a _ _ _ _ e (by omega) (by omega) _ (by omega) hm (by omega) (by omega) d2 (by omega) (by omega)
      · exact rrule_3a _ _ _ _ e (by omega) (by omega) _ (by omega) m2 (by omega) (by omega) d2 (by omega) (by omega)
end Go.Proofs.YtomnjdammfiadaaDoor
