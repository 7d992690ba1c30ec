/- A text is the schedule, or has the error, that the document says. -/
import Derived.Test.YtcmdjpgabkjbpaaGreatDoorCrRefP
import Derived.Test.YtcmdjpgabkjbpaaGreatDoorCrRefG
set_option linter.unusedVariables false
namespace Go.Proofs.YtcmdjpgabkjbpaaGreatDoor
open Go.ChangeShapes Go.WideShapes Go.ChangeAt Go.RowKit
open Crn Civ
set_option maxRecDepth 100000 in
set_option maxHeartbeats 4000000 in
theorem parses_walk (s : ByteArray) (w : World) (htab : Tab w) : Calls Tryz.prog 3 #[.string s] w fun e w' => e = .returned (.bool true) ∧ Kept w w' := by
  obtain ⟨⟨l⟩⟩ := s
  show Calls Tryz.prog 3 #[.string ⟨l.toArray⟩] w _
  have T0 := Lib.hid (Tb.start htab)
  clear htab
  go_enter Tryz.func3, Tryz.ntmps3
  go_wp2_with fail
  refine (awake_yes _ T0.out.tab).mono ?_
  rintro e x1 ⟨rfl, k1⟩
  have K1 := Lib.hid k1; have T1 := Lib.hid (T0.out.kept k1)
  clear k1 T0
  by_cases h3 : 300 < l.length
  · go_wp2
    go_ret
    exact ⟨rfl, K1.out⟩
  · go_wp2_with fail
    refine (parse_any l w.heap.size _ T1.out K1.out.size (by omega)).mono ?_
    intro e x2 hp
    obtain ⟨⟨d, n⟩, hd⟩ : ∃ q, resP l = q := ⟨_, rfl⟩
    obtain ⟨sa, rfl, ca, k2⟩ := parse_as hd hp
    have HD := Lib.hid hd
    have HZ2 := Lib.hid (box_z x2)
    have k3 := k2.trans (box_k x2 sa d.st)
    have BA3 := Lib.hid (box_b x2 sa d.st)
    have ho2 := cr_ones d.st ca
    have CA3 := Lib.hid (ca.kept (box_k x2 sa d.st))
    have K3 := Lib.hid (K1.out.trans k3)
    clear hp ca k2 k3 K1 T1 hd
    go_upto_region 5 with (refine wpList_store_row rfl 27 _ _ rfl x2.heap.size _ rfl rfl 27 _ HZ2.out (by kernel_rfl) rfl ho2 ?_)
    generalize (x2.alloc (.cells z10 27)).setRow x2.heap.size (cr10 sa d.st) = x3 at *
    clear HZ2 ho2
    go_wp2_with fail
    refine (rparse_any l _ (by omega)).mono ?_
    rintro e x5 ⟨sb, he, cb, k5⟩
    rw [HD.out] at he cb
    subst he
    have HZ5 := Lib.hid (box_z x5)
    have k6 := k5.trans (box_k x5 sb d.st)
    have BB6 := Lib.hid (box_b x5 sb d.st)
    have ho5 := cr_ones d.st cb
    have CB6 := Lib.hid (Cr.kept (L := d.L) cb (box_k x5 sb d.st))
    have K6 := Lib.hid (K3.out.trans k6); have BA6 := Lib.hid (BA3.out.kept k6); have CA6 := Lib.hid (CA3.out.kept k6)
    clear cb k5 k6 K3 BA3 CA3
    go_upto_region 6 with (refine wpList_store_row rfl 27 _ _ rfl x5.heap.size _ rfl rfl 27 _ HZ5.out (by kernel_rfl) rfl ho5 ?_)
    generalize (x5.alloc (.cells z10 27)).setRow x5.heap.size (cr10 sb d.st) = x6 at *
    clear ho5 HZ5
    obtain ⟨e0, e1, e2, e3, e4, e5, e6, e7, e8, e9⟩ := cells10 BA6.out
    obtain ⟨v0, v1, v2, v3, v4, v5, v6, v7, v8, v9⟩ := cells10 BB6.out
    go_wp2_with fail
    refine (rsame_any d d sa sb _ CA6.out CB6.out).mono ?_
    rintro e x7 ⟨rfl, k7⟩
    rw [decide_eq_true (show SameP d d from fun i _ => ⟨rfl, rfl⟩)]
    have K7 := Lib.hid (K6.out.trans k7)
    clear k7 e0 e1 e2 e3 e4 e5 e6 e7 e8 e9 v0 v1 v2 v3 v4 v5 v6 v7 v8 v9
    go_wp2
    go_ret
    exact ⟨rfl, K7.out⟩
end Go.Proofs.YtcmdjpgabkjbpaaGreatDoor
