/- Package plain: the plain text. -/
import Derived.Test.YtpkbcomdkamglaaDoorPlP
import Derived.Test.YtpkbcomdkamglaaDoorPlSp
set_option linter.unusedSimpArgs false
set_option linter.unusedVariables false
namespace Go.Proofs.YtpkbcomdkamglaaDoor.Pl
open Go.ChangeShapes Go.WideShapes Go.ChangeAt Go.RowKit
open En
/-- the line of a piece, one more -/
theorem nel_take {ps : List B} {i : Nat} {p : B} (h : ps[i]? = some p) : nel ((ps.take (i + 1)).map lin) = nel ((ps.take i).map lin) ++ (if lin p = [] then [] else [lin p]) := by
  rw [List.take_add_one, h]
  unfold nel
  rw [Option.toList_some, List.map_append, List.filter_append]
  congr 1
  by_cases e : lin p = []
  · rw [if_pos e]; simp [e]
  · rw [if_neg e]
    have : (lin p).isEmpty = false := by cases hq : lin p with
      | nil => exact absurd hq e
      | cons a r => rfl
    simp [this]
theorem nel_le (ps : List B) (i : Nat) : (nel ((ps.take i).map lin)).length ≤ ps.length := by
  unfold nel
  have := List.length_filter_le (fun t : B => !t.isEmpty) ((ps.take i).map lin)
  rw [List.length_map, List.length_take] at this
  omega
theorem join_any (v : Value) (ls : List B) (n : Nat) (w : World) (h : OwnS n v ls w) (hl : ls.length ≤ 1000000) (hb : ∀ t ∈ ls, t.length ≤ 1000000 ∧ t ≠ []) :
    Calls Tryd.prog 13 #[v, .string ⟨#[10]⟩] w fun e w' => e = .returned (.string ⟨(ls.foldl addL []).toArray⟩) ∧ Kept w w' := by
  by_cases hz : ls.length = 0
  · obtain ⟨ao, cp, rfl⟩ := own_slice h
    obtain rfl : ls = [] := List.length_eq_zero_iff.1 hz
    refine (Tryd.strings_Join_none ao cp ⟨#[10]⟩ w).mono ?_
    rintro e w' ⟨rfl, rfl⟩
    exact ⟨rfl, Kept.refl _⟩
  · obtain ⟨g, cap, rfl, hc⟩ := OutS.at (show OutS n v ls w from h) (show 0 < ls.length by omega)
    obtain ⟨hcap, hg⟩ : ls.length ≤ cap ∧ g < w.heap.size := by
      rcases h.2 with ⟨h1, h2⟩ | ⟨g', cap', cur, h1, h2, h3, h4, _⟩
      · exact absurd h2 hz
      · injection h1 with e1 _ e3
        cases e1
        subst e3
        exact ⟨h4, (Array.getElem?_eq_some_iff.1 h3).1⟩
    have he : Lib.join ((ls.map fun t => (⟨t.toArray⟩ : ByteArray)).map (·.data.toList)) (ByteArray.mk #[10]).data.toList = ls.foldl addL [] := by
      rw [List.map_map, show ((fun x : ByteArray => x.data.toList) ∘ fun t : B => (⟨t.toArray⟩ : ByteArray)) = id from rfl, List.map_id]
      exact join_of (fun t ht => (hb t ht).2)
    have hlen := fold_len 1000000 ls [] (fun t ht => (hb t ht).1)
    have := Tryd.strings_Join g 0 cap (ls.map fun t => (⟨t.toArray⟩ : ByteArray)) ⟨#[10]⟩ w (fun j x hx => by
      rw [List.getElem?_map] at hx
      cases hj : ls[j]? with
      | none => rw [hj] at hx; cases hx
      | some p => rw [hj] at hx; cases hx; rw [Nat.zero_add]; exact hc j p hj) hg (by rw [List.length_map]; omega) (by rw [List.length_map]; exact hcap) (by
        rw [he]
        have : ls.length * (1000000 + 1) ≤ 1000000 * (1000000 + 1) := Nat.mul_le_mul_right _ hl
        simp at hlen; omega)
    rw [he, List.length_map] at this
    refine this.mono ?_
    rintro e w' ⟨rfl, hb'⟩
    exact ⟨rfl, Kept.of_below hb'⟩
set_option maxRecDepth 100000 in
set_option maxHeartbeats 4000000 in
theorem of_any (l : B) (w : World) (hE : EnvP w) (hl : l.length ≤ 100000) : Calls Tryd.prog 7 #[.string ⟨l.toArray⟩] w fun e w' => e = .returned (.string ⟨(ofP l).toArray⟩) ∧ Kept w w' := by
  have hm := pcs_mem l
  have hn := pcs_len l
  have hne := pc_ne [] l
  have HF := Lib.hid (ofP_nel l)
  have HE := Lib.hid hE
  have HP := Lib.hid (fun w hE => pieces_any l w hE hl)
  have HB : ∀ p ∈ pcs l, (lin p).length ≤ 200000 := fun p hp => by have := lin_len p; have := hm p hp; omega
  rw [show pc [] l = pcs l from rfl] at hne
  clear hE
  generalize ofP l = z at *
  generalize pcs l = ps at *
  have HX := Lib.hid HB
  clear HB
  go_enter Tryd.func7, Tryd.ntmps7
  go_wp2_with fail
  refine (HP.out _ HE.out).mono ?_
  rintro e w1 ⟨v, rfl, hv, k1⟩
  have hps : 0 < ps.length := List.length_pos_iff.2 hne
  obtain ⟨g, cap, rfl, hc⟩ := OutS.at (show OutS w.heap.size v ps w1 from hv) hps
  have HC := Lib.hid hc
  have K1 := Lib.hid k1
  have hcap : ps.length ≤ cap := by
    rcases hv.2 with ⟨h1, h2⟩ | ⟨g', cap', cur, h1, h2, h3, h4, _⟩
    · omega
    · injection h1 with e1 _ e3
      subst e3
      exact h4
  clear hv hc k1 hne
  go_wp2_with fail
  go_loopw [3, 10] (fun vt vi wr => ∃ i : Nat, i ≤ ps.length ∧ vi = .int .i64 i ∧ Hid (Kept w1 wr) ∧ Hid (OwnS w1.heap.size vt (nel ((ps.take i).map lin)) wr)) (fun _ vi _ => ps.length - (intOf vi).toNat)
  case atStart => exact ⟨0, Nat.zero_le _, rfl, Lib.hid (Kept.refl _), Lib.hid (World.ownsRow_nil _ _ _ _)⟩
  case round =>
    obtain ⟨i, hi, rfl, hK, hO⟩ := hrel
    by_cases hlt : i < ps.length
    · have hltI : (i : Int) < ps.length := by omega
      obtain ⟨p, hp⟩ : ∃ p, ps[i]? = some p := ⟨_, List.getElem?_eq_getElem hlt⟩
      have hpm := List.mem_of_getElem? hp
      have hpl := hm p hpm
      have hc0 := hK.out.yes (HC.out i p hp)
      have HN := Lib.hid (nel_take hp)
      have hle := nel_le ps i
      have HW := Lib.hid (HE.out.kept (K1.out.trans hK.out))
      have HL := Lib.hid (fun w hE => loose_any p w hE (by omega))
      have HT := Lib.hid (fun w hE => trim_any (gone p).1 w hE (by have := gone_len _ p (Nat.le_refl _); omega))
      rw [show tr (gone p).1 = lin p from rfl] at HT
      generalize nel ((ps.take i).map lin) = D at *
      generalize lin p = t at *
      generalize (gone p).1 = q at *
      go_wp2_with fail
      refine (HL.out _ HW.out.env).mono ?_
      rintro e w2 ⟨rfl, k2⟩
      go_wp2_with fail
      refine (HT.out _ (HW.out.env.kept k2)).mono ?_
      rintro e w3 ⟨rfl, k3⟩
      have K3 := Lib.hid (k2.trans k3)
      clear k2 k3
      by_cases ht : t = []
      · subst ht
        have HD := Lib.hid (show nel ((ps.take (i + 1)).map lin) = D by rw [HN.out, if_pos rfl, List.append_nil])
        have O3 := Lib.hid (show OwnS w1.heap.size u3 D w3 from OwnS.kept hO.out K3.out)
        have KK := Lib.hid (hK.out.trans K3.out)
        clear HN hO hK K3
        go_wp2
        go_roundw
        case rel => exact ⟨i + 1, hlt, by go_num, KK, Lib.hid (by rw [HD.out]; exact O3.out)⟩
        case measure => simp [intOf]; omega
      · have hte : t.isEmpty = false := by cases t with
          | nil => exact absurd rfl ht
          | cons a r => rfl
        have HD := Lib.hid (show nel ((ps.take (i + 1)).map lin) = D ++ [t] by rw [HN.out, if_neg ht])
        have hal := (Kept.refl w3).alloc (.cells #[sV t] 9)
        have O4 := Lib.hid (OwnS.kept (OwnS.kept hO.out K3.out) hal)
        have K4 := Lib.hid ((hK.out.trans K3.out).trans hal)
        have hc4 := (Kept.refl (w3.alloc (.cells #[sV t] 9))).new 0 (v := sV t) rfl
        have hB4 := K4.out.size
        clear ht HN hO hK K3 hal
        go_wp2_with (at_builtin; refine wpList_pushS rfl _ _ rfl w1.heap.size u3 D t w3.heap.size rfl O4.out rfl hc4 (by omega) hB4 ?_)
        intro v' y hz hgz
        have KZ := Lib.hid (kept_row K4.out hgz (fun g hg => (World.ownsRow.lt O4.out g hg).1))
        have OZ := Lib.hid hz
        clear hz hgz hc4 hB4 O4 K4
        go_wp2
        go_roundw
        case rel => exact ⟨i + 1, hlt, by go_num, KZ, Lib.hid (by rw [HD.out]; exact OZ.out)⟩
        case measure => simp [intOf]; omega
    · obtain rfl : i = ps.length := by omega
      have hle := nel_le ps ps.length
      rw [List.take_length] at hO hle
      have HJ := Lib.hid (fun w h => join_any u3 (nel (ps.map lin)) w1.heap.size w h (by omega) (fun t ht => ⟨by
        have := (List.mem_filter.1 ht).1
        rw [List.mem_map] at this
        obtain ⟨p, hp, rfl⟩ := this
        have := HX.out p hp
        omega, nel_ne t ht⟩))
      rw [← HF.out] at HJ
      go_wp2_with fail
      refine (HJ.out _ hO.out).mono ?_
      rintro e w2 ⟨rfl, k2⟩
      have KK := (K1.out.trans hK.out).trans k2
      go_wp2
      go_ret
      exact ⟨rfl, KK⟩
end Go.Proofs.YtpkbcomdkamglaaDoor.Pl
