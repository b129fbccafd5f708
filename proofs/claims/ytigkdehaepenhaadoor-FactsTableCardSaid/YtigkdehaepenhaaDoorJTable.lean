/-
  What facts.Table returns: a table's lines. Conditions: the rows lie in memory, at most 1000 of them, texts of at most 1000000 bytes; the table of powers of ten lies.
-/
import Derived.Test.YtigkdehaepenhaaDoorJAlign
set_option linter.unusedVariables false
set_option linter.unusedSimpArgs false
namespace Go.Proofs.YtigkdehaepenhaaDoor.J
open Go.Proofs.YtigkdehaepenhaaDoor.B
open Go.RowKit

/-- The first c columns aligned. -/
def alX (R : List Rw) (c : Nat) : Nat → List ByteArray := fun d => if d < c then (colsX R d).map (padL d (wideJ (rowsJ R) d)) else colsX R d
theorem al_zero (R : List Rw) : alX R 0 = colsX R := by
  funext d
  unfold alX
  rw [if_neg (by omega)]
theorem al_at (R : List Rw) (c : Nat) : alX R c c = colsX R c := by
  unfold alX
  rw [if_neg (by omega)]
theorem al_step (R : List Rw) (c : Nat) : up (alX R c) c ((alX R c c).map (padL c (wideB (alX R c c)))) = alX R (c + 1) := by
  have e : wideB (colsX R c) = wideJ (rowsJ R) c := wideB_is _ _
  rw [al_at, e]
  funext d
  unfold up
  by_cases h : d = c
  · subst h
    rw [if_pos rfl]
    unfold alX
    rw [if_pos (by omega)]
  · rw [if_neg h]
    unfold alX
    by_cases h2 : d < c
    · rw [if_pos h2, if_pos (by omega)]
    · rw [if_neg h2, if_neg (by omega)]
theorem al_len (R : List Rw) (c d : Nat) : (alX R c d).length = R.length + 1 := by
  unfold alX
  split
  · rw [List.length_map, colsX_len]
  · rw [colsX_len]
theorem al_get {R : List Rw} {i : Nat} {r : Row6} (h : (rowsJ R)[i]? = some r) {c : Nat} (hc : c < 6) : (alX R 6 c)[i]? = some (padL c (wideJ (rowsJ R) c) (r c)) := by
  unfold alX
  rw [if_pos hc, List.getElem?_map]
  unfold colsX
  rw [List.getElem?_map, h]
  rfl
theorem padL_size {c W : Nat} {t : ByteArray} {K : Nat} (h : t.size ≤ K) (hW : W ≤ K) : (padL c W t).size ≤ 2 * K := by
  unfold padL
  split
  · rw [ByteArray.size_append, N.blankS_size]; omega
  · split
    · rw [ByteArray.size_append, N.blankS_size]; omega
    · omega
theorem cols_small {R : List Rw} (h : ∀ r ∈ R, OkR r) {c : Nat} (hc : c < 5) : ∀ s ∈ colsX R c, s.size ≤ 100 := fun s hs => by
  obtain ⟨r, hr, rfl⟩ := List.mem_map.1 hs
  have := rows_size h hc r hr
  omega
theorem line_small {R : List Rw} (h : ∀ r ∈ R, OkR r) {r : Row6} (hr : r ∈ rowsJ R) : ∀ c, c < 6 → (padL c (wideJ (rowsJ R) c) (r c)).size ≤ 2000000 := fun c hc => by
  by_cases h5 : c < 5
  · have h1 := rows_size h h5 r hr
    have h2 := wide_le (K := 22) (rows_size h h5)
    have := padL_size (c := c) h1 h2
    omega
  · obtain rfl : c = 5 := by omega
    have h1 := rows_size5 h r hr
    unfold padL
    rw [if_neg (by decide), if_neg (by decide)]
    omega
theorem line_six (R : List Rw) (r : Row6) : joinJ (rowL6 fun c => padL c (wideJ (rowsJ R) c) (r c)) = lineJ (wideJ (rowsJ R)) r := rfl
def ClRel (R : List Rw) (Bs T : Nat) (G C : Nat → Nat) (w : World) (v : Value) (wr : World) : Prop := ∃ c : Nat, c ≤ 6 ∧ v = .int .i64 (c : Int) ∧ Hid (Cols Bs T G C (alX R c) wr) ∧ Hid (Below Bs w wr)
def LnRel (A : List ByteArray) (n : Nat) (w4 : World) (v : Value) (wr : World) : Prop :=
  ∃ i : Nat, i ≤ n ∧ v = .int .i64 (i : Int) ∧ Hid (wr.ownsRow w4.heap.size 9 1 (.slice (some ⟨w4.heap.size, 0, none⟩) n n) n (strs (setsL A ⟨#[]⟩ i))) ∧ Hid (Below w4.heap.size w4 wr)
theorem str_made (n : Nat) : (madeCells (Value.string ⟨#[]⟩).cells (n * 1)).toList = strs (List.replicate n ⟨#[]⟩) := by
  have : (Value.string ⟨#[]⟩).cells = #[.string ⟨#[]⟩] := rfl
  rw [this, toList_madeCells_one, Nat.mul_one]
  unfold strs
  rw [List.map_replicate]
theorem strs_set (l : List ByteArray) (i : Nat) (s : ByteArray) : (strs l).set i (.string s) = strs (l.set i s) := by
  unfold strs
  rw [List.map_set]

set_option maxRecDepth 100000 in
set_option maxHeartbeats 16000000 in
theorem table_any (R : List Rw) (ra : Option Addr) (rc : Nat) (w : World) (ht : N.Tab w) (HR : RowL 6 rwC w ra R) (hl : R.length ≤ 1000) (hR : ∀ r ∈ R, OkR r) :
    Calls Tryd.prog 6 #[.slice ra R.length rc] w fun e w' => ∃ v, e = .returned v ∧ w'.ownsRow w.heap.size 9 1 v (tableJ R).length (strs (tableJ R)) ∧ Below w.heap.size w w' := by
  obtain ⟨i0, hi0, hz0, hz1, hz2⟩ := info_parts infoStr
  have HTo := Lib.hid (tableOf_any R ra rc w ht HR (by omega) hR)
  have HOk := Lib.hid hR
  have HAl := Lib.hid (table_len R)
  have HAt := Lib.hid (show ∀ (i : Nat) (r : Row6), (rowsJ R)[i]? = some r → (tableJ R)[i]? = some (joinJ (rowL6 fun c => padL c (wideJ (rowsJ R) c) (r c))) from fun i r hr => by unfold tableJ; rw [List.getElem?_map, hr, line_six]; rfl)
  have HRn := Lib.hid (show (rowsJ R).length = R.length + 1 from by unfold rowsJ; simp)
  clear ht HR hR
  generalize tableJ R = A at HAl HAt ⊢
  go_enter Tryd.func6, Tryd.ntmps6
  go_upto_region 1 with fail
  go_wp2_with fail
  refine HTo.out.mono ?_
  rintro e w2 ⟨G, C, rfl, ho, hs, hb⟩
  have HO2 := Lib.hid ho
  have HS2 := Lib.hid hs
  have HB2 := Lib.hid hb
  clear ho hs hb HTo
  go_upto_region 2 with (refine wpList_store_row rfl 36 (.tmp 3) (.tmp 8) rfl w2.heap.size (tabA G C (colsX R)) rfl rfl 36 _ (heap_alloc_new _ _) sizeTab rfl (tab_one _ _ _) ?_; rw [World.setRow_alloc_new])
  have HC3 := Lib.hid (show Cols w.heap.size w2.heap.size G C (alX R 0) (w2.alloc (.cells (tabA G C (colsX R)) 36)) from by
    rw [al_zero]
    exact ⟨heap_alloc_new _ _, fun c hc => owns_to (HO2.out c hc) ((Below.refl _ _).alloc (Nat.le_refl _) _), HS2.out⟩)
  have HB3 := Lib.hid (show Below w.heap.size w (w2.alloc (.cells (tabA G C (colsX R)) 36)) from HB2.out.alloc HB2.out.size _)
  generalize w2.alloc (.cells (tabA G C (colsX R)) 36) = w3 at HC3 HB3 ⊢
  generalize w2.heap.size = T at HC3 ⊢
  clear HO2 HS2 HB2
  go_wp2_with fail
  go_loopw [9] (ClRel R w.heap.size T G C w) (fun v _ => 6 - (intOf v).toNat)
  case atStart => exact ⟨0, by omega, rfl, HC3, HB3⟩
  case round =>
    clear HC3 HB3
    obtain ⟨c, hc, rfl, HC, HB⟩ := hrel
    by_cases hc6 : c < 6
    · have d0 : decide ((c : Int) < 6) = true := decide_eq_true (by omega)
      have HSt := Lib.hid (al_step R c)
      have HAc := Lib.hid (align_any c hc6 w wr HC.out HB.out (fun h5 => by rw [al_at]; exact cols_small HOk.out h5) (by rw [al_len]; omega) (by rw [al_len]; omega))
      go_wp2_with (go_at_call 11; refine HAc.out.mono ?_; rintro e w4 ⟨rfl, hc4, hb4⟩; rw [HSt.out] at hc4; have HC4 := Lib.hid hc4; have HB4 := Lib.hid hb4; clear hc4 hb4)
      go_roundw
      case rel => exact ⟨c + 1, by omega, by simp, HC4, HB4⟩
      case measure => simp [intOf]; omega
    · obtain rfl : c = 6 := by omega
      have d0 : decide (((6 : Nat) : Int) < 6) = false := by decide
      go_upto_region 8 with (at_make; go_loud (refine wpList_make_full _ rfl (.tmp 17) (.tmp 17) 27 rfl wr.heap.size 9 i0 _ 1 Tryd.underlying27 hi0 hz0 hz1 .i64 .i64 _ _ (R.length + 1) rfl rfl (by simp) (by simp) (by rw [hz2]; omega) (by unfold maxLen; omega) (Nat.le_refl _) ?_; intro w5 hown hgrow))
      rw [str_made] at hown
      have HB5 := Lib.hid ((Below.refl wr.heap.size wr).grown hgrow (Nat.le_refl _) (fun j hj => by cases hj))
      have HO5 := Lib.hid (show w5.ownsRow wr.heap.size 9 1 (.slice (some ⟨wr.heap.size, 0, none⟩) (R.length + 1) (R.length + 1)) (R.length + 1) (strs (setsL A ⟨#[]⟩ 0)) from by rw [sets_zero, HAl.out]; exact hown)
      clear hown hgrow
      obtain ⟨w4, rfl⟩ : ∃ w4, w4 = wr := ⟨_, rfl⟩
      go_wp2_with fail
      go_loopw [21] (LnRel A (R.length + 1) w4) (fun v _ => R.length + 1 - (intOf v).toNat)
      case atStart => exact ⟨0, Nat.zero_le _, rfl, HO5, HB5⟩
      case round =>
        clear HO5 HB5
        obtain ⟨i, hi, rfl, HO, HBr⟩ := hrel
        by_cases hlt : i < R.length + 1
        · have d1 : decide ((i : Int) < (R.length : Int) + 1) = true := decide_eq_true (by omega)
          have HiA := Lib.hid (show i < A.length from by have := HAl.out; omega)
          obtain ⟨r, hr⟩ : ∃ r, (rowsJ R)[i]? = some r := ⟨_, List.getElem?_eq_getElem (by rw [HRn.out]; omega)⟩
          have HLi := Lib.hid (HAt.out i r hr)
          have HLn := Lib.hid (line_any i (fun c => padL c (wideJ (rowsJ R) c) (r c)) wr (HC.out.keep HBr.out) (fun c hc => al_get hr hc) (line_small HOk.out (List.mem_of_getElem? hr)) (fun c hc => by rw [al_len]; omega))
          clear hr
          generalize joinJ (rowL6 fun c => padL c (wideJ (rowsJ R) c) (r c)) = ln at HLi HLn
          go_wp2_with fail
          refine HLn.out.mono ?_
          rintro e w9 ⟨rfl, hb9⟩
          have HO9 := Lib.hid (owns_to HO.out hb9)
          have HB9 := Lib.hid (HBr.out.trans (hb9.mono HBr.out.size))
          clear hb9 HLn HO HBr
          have q3 : w9.cell? ⟨w4.heap.size, i, none⟩ = some (.string ((setsL A ⟨#[]⟩ i).getD i ⟨#[]⟩)) := owns_cell HO9.out (by
            unfold strs
            rw [List.getElem?_map, List.getD_eq_getElem?_getD, List.getElem?_eq_getElem (show i < (setsL A ⟨#[]⟩ i).length by rw [sets_len (Nat.le_of_lt HiA.out)]; exact HiA.out)]
            rfl)
          have q4 : w9.frozen? ⟨w4.heap.size, i, none⟩ = false := owns_frozen HO9.out i
          have HOn := Lib.hid (show (w9.setCell ⟨w4.heap.size, i, none⟩ (.string ln)).ownsRow w4.heap.size 9 1 (.slice (some ⟨w4.heap.size, 0, none⟩) (R.length + 1) (R.length + 1)) (R.length + 1) (strs (setsL A ⟨#[]⟩ (i + 1))) from by
            have := owns_setCell HO9.out (j := i) (by rw [strs_len, sets_len (Nat.le_of_lt HiA.out)]; exact HiA.out) (.string ln)
            rwa [strs_set, sets_step HLi.out] at this)
          have HBn := Lib.hid (HB9.out.setCell (p := ⟨w4.heap.size, i, none⟩) (Nat.le_refl _) (.string ln))
          generalize (setsL A ⟨#[]⟩ i).getD i ⟨#[]⟩ = old at q3
          go_wp2_with fail
          go_roundw
          case rel => exact ⟨i + 1, by omega, by simp, HOn, HBn⟩
          case measure => simp [intOf]; omega
        · obtain rfl : i = R.length + 1 := by omega
          have d1 : decide (((R.length + 1 : Nat) : Int) < (R.length : Int) + 1) = false := decide_eq_false (by omega)
          rw [← HAl.out, sets_all] at HO
          have HLo := Lib.hid (owns_low HO.out HB.out.size)
          have HBe := Lib.hid (HB.out.trans (HBr.out.mono HB.out.size))
          rw [HAl.out] at HLo
          clear HO HBr
          go_wp2_with fail
          go_ret
          exact ⟨_, rfl, by rw [HAl.out]; exact HLo.out, HBe.out⟩
end Go.Proofs.YtigkdehaepenhaaDoor.J
