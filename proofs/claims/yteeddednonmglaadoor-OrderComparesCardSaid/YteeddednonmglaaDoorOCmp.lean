/-
  What the reference's Compare returns. Conditions: names of at most 60000 bytes.
-/
import Derived.Test.YteeddednonmglaaDoorOVer
set_option linter.unusedVariables false
namespace Go.Proofs.YteeddednonmglaaDoor
open Go.RowKit

def kyL (k : Ky) : List Value := [.string k.name, .int .i64 k.size, .int .i64 k.time, .bool k.dir]
def kyV (k : Ky) : Value := .agg #[.string k.name, .int .i64 k.size, .int .i64 k.time, .bool k.dir]
theorem ext_len (l : List UInt8) : (extL l).length ≤ l.length := by
  unfold extL
  have : ∀ n, (extGo l n).length ≤ l.length := fun n => by
    induction n with
    | zero => exact Nat.zero_le _
    | succ n ih =>
      rw [extGo]
      split
      · rw [List.length_drop]; omega
      · exact ih
  exact this _
theorem same_symm {P : Program} {f : FuncId} {a : Array Value} {w : World} {v : Value} (h : Calls P f a w fun e w' => e = .returned v ∧ w = w') : Calls P f a w fun e w' => e = .returned v ∧ w' = w := h.mono fun e w' ⟨p, q⟩ => ⟨p, q.symm⟩
set_option maxRecDepth 100000 in
set_option maxHeartbeats 8000000 in
theorem rcompare_any (o : Int) (a b : Ky) (w : World) (ha : a.name.size ≤ 60000) (hb : b.name.size ≤ 60000) :
    Calls Tryd.prog 12 #[.int .i64 o, kyV a, kyV b] w fun e w' => e = .returned (.int .i64 (cmpK o a b)) ∧ Below w.heap.size w w' := by
  have HLs := Lib.hid (fun W => rless_any a.name b.name W (by omega) (by omega))
  have HEx := Lib.hid (fun (s : ByteArray) (h : s.size ≤ 60000) W => rext_any s W (by omega))
  have HLe := Lib.hid (fun W => rless_any (mkB (extL a.name.data.toList)) (mkB (extL b.name.data.toList)) W (by rw [← size_list, mkB_list]; have := ext_len a.name.data.toList; rw [size_list] at this; omega) (by rw [← size_list, mkB_list]; have := ext_len b.name.data.toList; rw [size_list] at this; omega))
  have HVe := Lib.hid (fun W => rversion_any a.name b.name W ha hb)
  have HN1 := Lib.hid (fun W => rnumbers_any a.size b.size W)
  have HN2 := Lib.hid (fun W => rnumbers_any a.time b.time W)
  simp only [mkB_list] at HLe
  have HC := Lib.hid (show cmpK o a b = if ordC o a b = 0 then nameC a b else ordC o a b from rfl)
  have HO := Lib.hid (show ordC o a b = if o = 1 then cmpI b.size a.size else if o = 2 then cmpI b.time a.time else if o = 3 then lessL (extL a.name.data.toList) (extL b.name.data.toList) else if o = 4 then verL a.name.data.toList b.name.data.toList else 0 from rfl)
  have HNm := Lib.hid (show nameC a b = lessL a.name.data.toList b.name.data.toList from rfl)
  generalize ordC o a b = C at HC HO
  rw [HNm.out] at HC
  generalize cmpK o a b = R at HC ⊢
  unfold kyV
  go_enter Tryd.func12, Tryd.ntmps12
  go_upto_region 1 with fail
  have HXa := Lib.hid (show ((w.alloc (.cells #[.string a.name, .int .i64 a.size, .int .i64 a.time, .bool a.dir] 26)).alloc (.cells #[.string b.name, .int .i64 b.size, .int .i64 b.time, .bool b.dir] 26)).heap[w.heap.size]? = some (.cells #[.string a.name, .int .i64 a.size, .int .i64 a.time, .bool a.dir] 26 (0, 0)) from by
    have h1 := heap_alloc_new w (.cells #[.string a.name, .int .i64 a.size, .int .i64 a.time, .bool a.dir] 26)
    have h2 : Below (w.heap.size + 1) (w.alloc (.cells #[.string a.name, .int .i64 a.size, .int .i64 a.time, .bool a.dir] 26)) ((w.alloc (.cells #[.string a.name, .int .i64 a.size, .int .i64 a.time, .bool a.dir] 26)).alloc (.cells #[.string b.name, .int .i64 b.size, .int .i64 b.time, .bool b.dir] 26)) := (Below.refl _ _).alloc (by simp) _
    exact (h2.block _ (by omega)).trans h1)
  have HXb := Lib.hid (show ((w.alloc (.cells #[.string a.name, .int .i64 a.size, .int .i64 a.time, .bool a.dir] 26)).alloc (.cells #[.string b.name, .int .i64 b.size, .int .i64 b.time, .bool b.dir] 26)).heap[w.heap.size + 1]? = some (.cells #[.string b.name, .int .i64 b.size, .int .i64 b.time, .bool b.dir] 26 (0, 0)) from by
    have h1 := heap_alloc_new (w.alloc (.cells #[.string a.name, .int .i64 a.size, .int .i64 a.time, .bool a.dir] 26)) (.cells #[.string b.name, .int .i64 b.size, .int .i64 b.time, .bool b.dir] 26)
    rwa [show (w.alloc (.cells #[.string a.name, .int .i64 a.size, .int .i64 a.time, .bool a.dir] 26)).heap.size = w.heap.size + 1 from by simp] at h1)
  have HB := Lib.hid (show Below w.heap.size w ((w.alloc (.cells #[.string a.name, .int .i64 a.size, .int .i64 a.time, .bool a.dir] 26)).alloc (.cells #[.string b.name, .int .i64 b.size, .int .i64 b.time, .bool b.dir] 26)) from ((Below.refl _ _).alloc (Nat.le_refl _) _).alloc (by simp) _)
  generalize (w.alloc (.cells #[.string a.name, .int .i64 a.size, .int .i64 a.time, .bool a.dir] 26)).alloc (.cells #[.string b.name, .int .i64 b.size, .int .i64 b.time, .bool b.dir] 26) = w2 at HXa HXb HB ⊢
  have HSz := Lib.hid HB.out.size
  obtain ⟨gA, hgA⟩ : ∃ g, w.heap.size = g := ⟨_, rfl⟩
  have HgA := Lib.hid hgA
  rw [hgA] at HXa HXb HB HSz ⊢
  clear hgA
  generalize gA + 1 = gB at HXb ⊢
  have HKa := Lib.hid (show ∀ W, Below w2.heap.size w2 W → W.cell? ⟨gA, 0, none⟩ = some (.string a.name) ∧ W.cell? ⟨gA, 1, none⟩ = some (.int .i64 a.size) ∧ W.cell? ⟨gA, 2, none⟩ = some (.int .i64 a.time) from fun W hW => by
    have q := (hW.block _ (heap_lt HXa.out)).trans HXa.out
    refine ⟨?_, ?_, ?_⟩ <;> (rw [cell_of_row _ _ _ _ _ _ q]; rfl))
  have HKb := Lib.hid (show ∀ W, Below w2.heap.size w2 W → W.cell? ⟨gB, 0, none⟩ = some (.string b.name) ∧ W.cell? ⟨gB, 1, none⟩ = some (.int .i64 b.size) ∧ W.cell? ⟨gB, 2, none⟩ = some (.int .i64 b.time) from fun W hW => by
    have q := (hW.block _ (heap_lt HXb.out)).trans HXb.out
    refine ⟨?_, ?_, ?_⟩ <;> (rw [cell_of_row _ _ _ _ _ _ q]; rfl))
  clear HXa HXb
  iterate 8 go_step
  go_cut [7] from 8 to 38 (fun v7 wx => v7 = .int .i64 C ∧ Hid (Below w2.heap.size w2 wx))
  case first =>
    obtain ⟨a0, a1, a2⟩ := HKa.out w2 (Below.refl _ _)
    obtain ⟨b0, b1, b2⟩ := HKb.out w2 (Below.refl _ _)
    by_cases o1 : o = 1
    · rw [if_pos o1] at HO
      have d1 : (o == 1) = true := beq_iff_eq.2 o1
      clear o1
      go_wp2_with (go_at_call 24; refine (HN1.out _).mono ?_; rintro e w3 ⟨rfl, hw⟩; subst hw)
      go_meet
      case rel => exact ⟨by rw [HO.out], Lib.hid (Below.refl _ _)⟩
    · rw [if_neg o1] at HO
      have d1 : (o == 1) = false := beq_eq_false_iff_ne.2 o1
      clear o1
      by_cases o2 : o = 2
      · rw [if_pos o2] at HO
        have d2 : (o == 2) = true := beq_iff_eq.2 o2
        clear o2
        go_wp2_with (go_at_call 24; refine (HN2.out _).mono ?_; rintro e w3 ⟨rfl, hw⟩; subst hw)
        go_meet
        case rel => exact ⟨by rw [HO.out], Lib.hid (Below.refl _ _)⟩
      · rw [if_neg o2] at HO
        have d2 : (o == 2) = false := beq_eq_false_iff_ne.2 o2
        clear o2
        by_cases o3 : o = 3
        · rw [if_pos o3] at HO
          have d3 : (o == 3) = true := beq_iff_eq.2 o3
          clear o3
          have aq : ∀ n, (w2.drewN n).cell? ⟨gA, 0, none⟩ = some (.string a.name) := fun n => (HKa.out _ (below_drewN' (Below.refl _ _))).1
          have bq : ∀ n, (w2.drewN n).cell? ⟨gB, 0, none⟩ = some (.string b.name) := fun n => (HKb.out _ (below_drewN' (Below.refl _ _))).1
          go_upto_region 8 with fail
          go_quiet (first
            | (go_at_call 25; refine Calls.quiet_of (HLe.out _))
            | (go_at_call 14; refine Calls.quiet_of_same (same_symm (HEx.out _ (by first | exact ha | exact hb) _))))
          go_wp2
          go_meet
          case rel => exact ⟨by rw [HO.out], Lib.hid (below_drewN' (Below.refl _ _))⟩
        · rw [if_neg o3] at HO
          have d3 : (o == 3) = false := beq_eq_false_iff_ne.2 o3
          clear o3
          by_cases o4 : o = 4
          · rw [if_pos o4] at HO
            have d4 : (o == 4) = true := beq_iff_eq.2 o4
            clear o4
            go_wp2_with (go_at_call 16; refine (HVe.out _).mono ?_; rintro e w3 ⟨rfl, hb⟩; have HB3 := Lib.hid hb; clear hb)
            go_meet
            case rel => exact ⟨by rw [HO.out], HB3⟩
          · rw [if_neg o4] at HO
            have d4 : (o == 4) = false := beq_eq_false_iff_ne.2 o4
            clear o4
            go_wp2_with fail
            go_meet
            case rel => exact ⟨by rw [HO.out], Lib.hid (Below.refl _ _)⟩
  case rest =>
    obtain ⟨rfl, HBc⟩ := hcut
    obtain ⟨a0, a1, a2⟩ := HKa.out wc HBc.out
    obtain ⟨b0, b1, b2⟩ := HKb.out wc HBc.out
    have HBf := Lib.hid (HB.out.trans (HBc.out.mono HSz.out))
    by_cases q : C = 0
    · rw [if_pos q] at HC
      rw [q]
      clear q
      go_wp2_with (go_at_call 25; refine (HLs.out _).mono ?_; rintro e w3 ⟨rfl, m, rfl⟩)
      go_ret
      exact ⟨ret_int HC.out.symm, (by rw [HgA.out]; exact below_drewN' HBf.out)⟩
    · rw [if_neg q] at HC
      have d0 : (C != 0) = true := by simpa using q
      clear q
      go_wp2_with fail
      go_ret
      exact ⟨ret_int HC.out.symm, (by rw [HgA.out]; exact HBf.out)⟩
end Go.Proofs.YteeddednonmglaaDoor
