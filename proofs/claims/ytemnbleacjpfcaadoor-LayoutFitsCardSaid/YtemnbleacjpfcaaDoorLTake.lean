/-
  What the program tells of how many columns are taken, and how wide they are. Conditions: the widths lie in memory, of at most 1000 names of at most 60000 bytes; the width is above 0.
-/
import Derived.Test.YtemnbleacjpfcaaDoorLInts
import Derived.Test.YtemnbleacjpfcaaDoorLPlaceM
set_option linter.unusedVariables false
namespace Go.Proofs.YtemnbleacjpfcaaDoor.L
open Go.Proofs.YtemnbleacjpfcaaDoor.W hiding ret_int below_two
open Go.Proofs.YtemnbleacjpfcaaDoor.N hiding ret_int
open Go.Proofs.YtemnbleacjpfcaaDoor.B
open Go.RowKit

/-! ### columnWidths -/
/-- How wide the columns are behind k names. -/
def colW (l : List ByteArray) (cols : Nat) (across : Bool) (k : Nat) : List Int := (List.range cols).map fun c => wideL (colF l (colOf l.length cols across) k c)
theorem colW_len (l : List ByteArray) (cols : Nat) (across : Bool) (k : Nat) : (colW l cols across k).length = cols := by unfold colW; rw [List.length_map, List.length_range]
theorem colW_zero (l : List ByteArray) (cols : Nat) (across : Bool) : colW l cols across 0 = List.replicate cols 0 := by
  unfold colW
  apply List.ext_getElem?
  intro c
  rw [List.getElem?_map, List.getElem?_replicate]
  by_cases h : c < cols
  · rw [List.getElem?_range h, if_pos h]; rfl
  · rw [List.getElem?_eq_none (by rw [List.length_range]; omega), if_neg h]; rfl
theorem colW_at {l : List ByteArray} {cols : Nat} {across : Bool} {k c : Nat} (h : c < cols) : (colW l cols across k)[c]? = some (wideL (colF l (colOf l.length cols across) k c)) := by
  unfold colW
  rw [List.getElem?_map, List.getElem?_range h]
  rfl
theorem colW_step {l : List ByteArray} {cols : Nat} {across : Bool} {k : Nat} (h : colOf l.length cols across k < cols) : (colW l cols across k).set (colOf l.length cols across k) (max (wideL (colF l (colOf l.length cols across) k (colOf l.length cols across k))) (wd (atL l k) 0)) = colW l cols across (k + 1) := by
  apply List.ext_getElem?
  intro c
  by_cases hc : c < cols
  · rw [colW_at hc]
    by_cases q : colOf l.length cols across k = c
    · subst q
      rw [List.getElem?_set_self (by rw [colW_len]; exact hc), colF_here _ _ _ _ rfl, wideL_snoc]
    · rw [List.getElem?_set_ne q, colW_at hc, colF_else _ _ _ _ q]
  · rw [List.getElem?_eq_none (by rw [List.length_set, colW_len]; omega), List.getElem?_eq_none (by rw [colW_len]; omega)]
theorem colW_end (l : List ByteArray) (cols : Nat) (across : Bool) : colW l cols across l.length = (colsL l cols across).map wideL := by
  unfold colW colsL
  rw [List.map_map]
  rfl
theorem colW_bd {l : List ByteArray} {cols : Nat} {across : Bool} {k : Nat} {j : Nat} (hk : k ≤ l.length) (hz : ∀ x ∈ l, x.size ≤ j) : ∀ x ∈ colW l cols across k, 0 ≤ x ∧ x ≤ 2 * (j : Int) := fun x hx => by
  obtain ⟨c, _, rfl⟩ := List.mem_map.1 hx
  exact ⟨wideL_nonneg _, wideL_small fun y hy => hz y (colF_mem hk hy)⟩
def CwRel (l : List ByteArray) (n cols : Nat) (across : Bool) (g : Nat) (w : World) (v : Value) (wr : World) : Prop :=
  ∃ k : Nat, k ≤ n ∧ v = .int .i64 (k : Int) ∧ Hid (wr.ownsRow w.heap.size 3 1 (ownS g cols) cols (ints (colW l cols across k))) ∧ Hid (Below w.heap.size w wr)
set_option maxHeartbeats 4000000 in
theorem colWidths_any (l : List ByteArray) (cols : Nat) (across : Bool) (g base : Nat) (w : World) (H : w.ownsRow base 3 1 (ownS g l.length) l.length (ints (wds l))) (hl : l.length ≤ 1000) (hz : ∀ x ∈ l, x.size ≤ 60000) (hc : 0 < l.length → 0 < cols) (hm : cols ≤ l.length) :
    Calls Tryd.prog 31 #[ownS g l.length, sizeV (cols : Int) (rowsN l.length cols : Int), .bool across] w fun e w' => ∃ g', e = .returned (ownS g' cols) ∧ w'.ownsRow w.heap.size 3 1 (ownS g' cols) cols (ints ((colsL l cols across).map wideL)) ∧ Below w.heap.size w w' := by
  obtain ⟨i0, hi0, hz0, hz1, hz2⟩ := info_parts infoInt
  have HX := Lib.hid H
  have HZ := Lib.hid hz
  clear H hz
  have hback := back_at (cols : Int) (by omega) w
  obtain ⟨n, hn⟩ : ∃ n, l.length = n := ⟨_, rfl⟩
  have HN := Lib.hid hn
  rw [hn] at hl hc hm HX ⊢
  clear hn
  go_enter Tryd.func31, Tryd.ntmps31
  go_wp2_with (at_make; go_loud (refine wpList_make_full _ rfl (.tmp 14) (.tmp 14) 49 rfl w.heap.size 3 i0 (.int .i64 0) 1 Tryd.underlying49 hi0 hz0 hz1 .i64 .i64 _ _ cols rfl rfl rfl rfl (by rw [hz2]; omega) (by unfold maxLen; omega) (Nat.le_refl _) ?_; intro w1 hown hgrow))
  rw [zeros_made] at hown
  have HO1 := Lib.hid (show w1.ownsRow w.heap.size 3 1 (ownS w.heap.size cols) cols (ints (colW l cols across 0)) from by rw [colW_zero]; exact hown)
  have HB1 := Lib.hid ((Below.refl w.heap.size w).grown hgrow (Nat.le_refl _) (fun j hj => by cases hj))
  clear hown hgrow hback
  go_loopw [18] (CwRel l n cols across w.heap.size w) (fun v _ => n - (intOf v).toNat)
  case atStart => exact ⟨0, Nat.zero_le _, rfl, HO1, HB1⟩
  case round =>
    obtain ⟨k, hk, rfl, HO, HB⟩ := hrel
    by_cases hi : k < n
    · have e1 : decide ((k : Int) < (n : Int)) = true := decide_eq_true (by omega)
      have hkl : k < l.length := by rw [HN.out]; exact hi
      have HWr := Lib.hid (owns_to HX.out (HB.out.mono (Nat.le_refl _)))
      have a0 := owns_cell HWr.out (ints_at (wds_at hkl))
      have hcp : 0 < cols := hc (by omega)
      have hlt : colOf n cols across k < cols := colOf_lt hi hcp
      have HS := Lib.hid (colW_step (l := l) (cols := cols) (across := across) (k := k) (by rw [HN.out]; exact hlt))
      have HV := Lib.hid (colW_at (l := l) (cols := cols) (across := across) (k := k) (c := colOf n cols across k) hlt)
      rw [HN.out] at HS HV
      have hwb := wd_bd (atL l k) 0
      have hzz := HZ.out _ (atL_mem hkl)
      have hwb2 := colW_bd (l := l) (cols := cols) (across := across) (k := k) (j := 60000) (by omega) HZ.out _ (List.mem_of_getElem? HV.out)
      generalize wd (atL l k) 0 = S at *
      generalize wideL (colF l (colOf n cols across) k (colOf n cols across k)) = M at *
      go_wp2_with fail
      refine (place_at n cols k across _ hi hcp (by omega) hm).mono ?_
      rintro e w2 ⟨rfl, md, hmd⟩
      have hbd : Below wr.heap.size wr w2 := by rw [hmd]; exact drawn_below wr md
      clear hmd
      have HO2 := Lib.hid (owns_to HO.out hbd)
      have HB2 := Lib.hid (below_two HB.out hbd)
      have HO3 := Lib.hid (own_step HO.out hbd (j := colOf n cols across k) (by rw [colW_len]; exact hlt) (if M < S then S else M))
      rw [max_if, HS.out, ← max_if] at HO3
      generalize colOf n cols across k = c at *
      generalize rowOf n cols across k = r at *
      have HB3 := Lib.hid (HB2.out.setCell (p := ⟨w.heap.size, c, none⟩) (Nat.le_refl _) (.int .i64 (if M < S then S else M)))
      have a1 := owns_cell HO2.out (ints_at HV.out)
      have a2 := owns_frozen HO2.out c
      clear hbd a0
      go_wp2_with fail
      go_roundw
      case rel => exact ⟨k + 1, by omega, by go_num, HO3, HB3⟩
      case measure => simp [intOf]; omega
    · have e1 : decide ((k : Int) < (n : Int)) = false := decide_eq_false (by omega)
      have hkn : k = n := by omega
      subst hkn
      have HE := Lib.hid (show colW l cols across k = (colsL l cols across).map wideL from by rw [← HN.out]; exact colW_end l cols across)
      rw [HE.out] at HO
      go_wp2_with fail
      go_ret
      exact ⟨_, rfl, HO.out, HB.out⟩

/-! ### mostColumns -/
def winZ (l : List ByteArray) (across : Bool) (a n : Nat) : Int := winS (fun j => countedZ l across j + 2) a n
theorem winZ_bd {l : List ByteArray} {across : Bool} {a n : Nat} (hz : ∀ x ∈ l, x.size ≤ 60000) : 0 ≤ winZ l across a n ∧ winZ l across a n ≤ 200000 * (n : Int) := by
  have hb : ∀ j, 0 ≤ countedZ l across j + 2 ∧ countedZ l across j + 2 ≤ 200000 := fun j => by
    rcases Nat.lt_or_ge j l.length with h | h
    · have := countedZ_bd l across j 60000 (hz _ (atL_mem h)); omega
    · have e : atL l j = ByteArray.empty := by unfold atL; rw [List.getD_eq_getElem?_getD, List.getElem?_eq_none h]; rfl
      have := countedZ_bd l across j 0 (by rw [e]; exact Nat.le_refl _); omega
  have h1 := winS_mono (g := fun _ => (0 : Int)) (h := fun j => countedZ l across j + 2) (a := a) n fun j _ _ => (hb j).1
  have h2 := winS_mono (g := fun j => countedZ l across j + 2) (h := fun _ => (200000 : Int)) (a := a) n fun j _ _ => (hb j).2
  rw [winS_const] at h1 h2
  unfold winZ
  omega
def McRel (l : List ByteArray) (most : Int) (across : Bool) (n : Nat) (f a s v : Value) : Prop :=
  ∃ (k F A : Nat) (S : Int), v = .int .i64 (k : Int) ∧ f = .int .i64 (F : Int) ∧ a = .int .i64 (A : Int) ∧ s = .int .i64 S ∧ k ≤ n ∧ F ≤ n ∧ A ≤ k ∧ S ≤ most ∧ Hid (S = winZ l across A (k - A) - 2) ∧ Hid (∀ j, F < j → j ≤ n → fitsB l most across j = false)
def McIn (l : List ByteArray) (most : Int) (across : Bool) (n k : Nat) (f a s : Value) : Prop :=
  ∃ (F A : Nat) (S : Int), f = .int .i64 (F : Int) ∧ a = .int .i64 (A : Int) ∧ s = .int .i64 S ∧ F ≤ n ∧ A ≤ k + 1 ∧ Hid (S = winZ l across A (k + 1 - A) - 2) ∧ Hid (∀ j, F < j → j ≤ n → fitsB l most across j = false)
set_option maxHeartbeats 8000000 in
theorem mostCols_any (l : List ByteArray) (most : Int) (across : Bool) (g base : Nat) (w : World) (H : w.ownsRow base 3 1 (ownS g l.length) l.length (ints (wds l))) (hl : l.length ≤ 1000) (hz : ∀ x ∈ l, x.size ≤ 60000) (h0 : 0 < most) (h1 : most ≤ 9223372036854775807) :
    Calls Tryd.prog 36 #[ownS g l.length, .int .i64 most, .bool across] w fun e w' => (∃ m : Nat, e = .returned (.int .i64 (m : Int)) ∧ min l.length 1 ≤ m ∧ m ≤ l.length ∧ ∀ j, m < j → j ≤ l.length → fitsB l most across j = false) ∧ w = w' := by
  have HX := Lib.hid H
  have HZ := Lib.hid hz
  clear H hz
  obtain ⟨n, hn⟩ : ∃ n, l.length = n := ⟨_, rfl⟩
  have HN := Lib.hid hn
  rw [hn] at hl HX ⊢
  clear hn
  go_enter Tryd.func36, Tryd.ntmps36
  go_wp2_with fail
  go_loop [7, 8, 9, 15] (McRel l most across n) (fun _ _ _ v => n - (intOf v).toNat)
  case atStart => exact ⟨0, n, 0, -2, rfl, rfl, rfl, rfl, Nat.zero_le _, Nat.le_refl _, Nat.le_refl _, by omega, Lib.hid rfl, Lib.hid fun j h1 h2 => by omega⟩
  case round =>
    obtain ⟨k, F, A, S, rfl, rfl, rfl, rfl, hk, hF, hA, hS, HS, HF⟩ := hrel
    by_cases hi : k < n
    · have e1 : decide ((k : Int) < (n : Int)) = true := decide_eq_true (by omega)
      have hkl : k < l.length := by rw [HN.out]; exact hi
      have a0 := owns_cell HX.out (ints_at (wds_at hkl))
      have hwb := wd_bd (atL l k) 0
      have hzz := HZ.out _ (atL_mem hkl)
      have hSb : -2 ≤ S ∧ S ≤ 1000000000 := by
        have := winZ_bd (l := l) (across := across) (a := A) (n := k - A) HZ.out
        have := HS.out
        omega
      have HC := Lib.hid (show (if across = true then wd (atL l k) 0 else 0) = countedZ l across k from rfl)
      have hcb := countedZ_bd l across k 60000 hzz
      have HS2 := Lib.hid (show winZ l across A (k + 1 - A) = winZ l across A (k - A) + (countedZ l across k + 2) from by
        rw [show k + 1 - A = k - A + 1 by omega]
        show winS _ A (k - A) + (countedZ l across (A + (k - A)) + 2) = _
        rw [show A + (k - A) = k by omega]
        rfl)
      generalize wd (atL l k) 0 = W at *
      go_wp2_with fail
      refine (counted_any W across _).mono ?_
      rintro e w2 ⟨rfl, rfl⟩
      rw [HC.out]
      generalize countedZ l across k = C at *
      clear a0 HC
      go_wp2_with fail
      go_loop [7, 8, 9] (McIn l most across n k) (fun _ a _ => k + 1 - (intOf a).toNat)
      case atStart => exact ⟨F, A, _, rfl, rfl, rfl, hF, by omega, Lib.hid (by rw [HS2.out]; have := HS.out; omega), HF⟩
      case round =>
        clear HS HF HS2 hF hA hS hSb
        obtain ⟨F, A, S, rfl, rfl, rfl, hF, hA, HS, HF⟩ := hrel
        have hSb : -2 ≤ S ∧ S ≤ 1000000000 := by
          have := winZ_bd (l := l) (across := across) (a := A) (n := k + 1 - A) HZ.out
          have := HS.out
          omega
        by_cases hm : most < S
        · have hAk : A ≤ k := by
            rcases Nat.lt_or_ge k A with q | q
            · have e := HS.out
              rw [show k + 1 - A = 0 by omega] at e
              have : winZ l across A 0 = 0 := rfl
              omega
            · exact q
          have e2 : decide (most < S) = true := decide_eq_true hm
          have hAl : A < l.length := by omega
          have a0 := owns_cell HX.out (ints_at (wds_at hAl))
          have hwb2 := wd_bd (atL l A) 0
          have hzz2 := HZ.out _ (atL_mem hAl)
          have HC := Lib.hid (show (if across = true then wd (atL l A) 0 else 0) = countedZ l across A from rfl)
          have hcb2 := countedZ_bd l across A 60000 hzz2
          have HS2 := Lib.hid (show winZ l across A (k + 1 - A) = countedZ l across A + 2 + winZ l across (A + 1) (k + 1 - (A + 1)) from by
            rw [show k + 1 - A = k + 1 - (A + 1) + 1 by omega]
            exact winS_head _ _ _)
          have HF2 := Lib.hid (show ∀ j, min F (k - A) < j → j ≤ n → fitsB l most across j = false from fun j h2 h3 => by
            by_cases q : F < j
            · exact HF.out j q h3
            · refine window_wide (a := A) (n := k + 1 - A) h0 (by omega) (by rw [HN.out]; omega) ?_
              have := HS.out
              unfold winZ at this
              omega)
          generalize wd (atL l A) 0 = W2 at *
          obtain ⟨C2, hC2⟩ : ∃ C2, countedZ l across A = C2 := ⟨_, rfl⟩
          rw [hC2] at HC HS2 hcb2
          clear hC2
          go_wp2_with fail
          all_goals
            refine (counted_any W2 across _).mono ?_
            rintro e w2 ⟨rfl, rfl⟩
            rw [HC.out]
            clear a0
            go_wp2_with fail
            go_round
          all_goals first
            | exact ⟨min F (k - A), A + 1, _, by congr 1; omega, by go_num, rfl, by omega, by omega, Lib.hid (by have h1 := HS2.out; have h2 := HS.out; omega), HF2⟩
            | (simp [intOf]; omega)
        · have e2 : decide (most < S) = false := decide_eq_false hm
          go_wp2_with fail
          go_round
          case rel => exact ⟨k + 1, F, A, S, by go_num, rfl, rfl, rfl, by omega, hF, by omega, by omega, HS, HF⟩
          case measure => simp [intOf]; omega
    · have e1 : decide ((k : Int) < (n : Int)) = false := decide_eq_false (by omega)
      have hkn : k = n := by omega
      subst hkn
      have HM := Lib.hid (show (max F (min k 1) : Nat) ≤ k from by omega)
      go_wp2_with fail
      all_goals (go_ret; exact ⟨⟨max F (min k 1), ret_int (by omega), by omega, HM.out, fun j h2 h3 => HF.out j (by omega) h3⟩, rfl⟩)

/-! ### taken -/
def takenN (l : List ByteArray) (most : Int) (across : Bool) : Nat := if l.length = 0 then 0 else bestF l most across l.length
def TkRel (l : List ByteArray) (most : Int) (across : Bool) (n : Nat) (w : World) (v : Value) (wr : World) : Prop :=
  ∃ m : Nat, v = sizeV (m : Int) (rowsN n m : Int) ∧ min n 1 ≤ m ∧ m ≤ n ∧ Hid (∀ j, m < j → j ≤ n → fitsB l most across j = false) ∧ Hid (Below w.heap.size w wr)
theorem ceil_at {n m : Nat} (h : n = 0 → m = 0) (h1 : 1 ≤ n → 1 ≤ m) : ceilZ (n : Int) (m : Int) = (rowsN n m : Int) := by
  by_cases hn : 1 ≤ n
  · exact ceil_rows hn (h1 hn)
  · obtain rfl : n = 0 := by omega
    obtain rfl := h rfl
    rfl
theorem cols_sum {l : List ByteArray} {cols : Nat} {across : Bool} : 2 * ((((colsL l cols across).map wideL).length : Int) - 1) + sumZ ((colsL l cols across).map wideL) = sumW (colsL l cols across) - 2 := by
  rw [sumZ_wide, List.length_map]
  omega
def colsOf : Value → Nat
  | .complex _ a _ => ((floatToIntVal .f64 a .i64).getD 0).toNat
  | _ => 0
theorem colsOf_size (m : Nat) (r : Int) (h : m ≤ 1000000) : colsOf (sizeV (m : Int) r) = m := by
  show ((floatToIntVal .f64 (floatOfInt .f64 (m : Int)) .i64).getD 0).toNat = m
  rw [float_back _ (by omega)]
  rfl
theorem taken_is {l : List ByteArray} {most : Int} {across : Bool} {m n : Nat} (hn : l.length = n) (h1 : min n 1 ≤ m) (h2 : m ≤ n) (hf : m ≤ 1 ∨ fitsB l most across m = true) (h : ∀ j, m < j → j ≤ n → fitsB l most across j = false) : takenN l most across = m := by
  unfold takenN
  rw [hn]
  by_cases h0 : n = 0
  · rw [if_pos h0]; omega
  · rw [if_neg h0]
    exact best_is (by omega) h2 (hf.imp (fun q => by omega) id) h
theorem fewer_next {l : List ByteArray} {most : Int} {across : Bool} {cols n : Nat} (hl : l.length = n) (h0 : 0 < most) (hc : 2 ≤ cols) (hn : cols ≤ n) (over : Int) (ho : over = sumW (colsL l cols across) - 2 - most) (hp : 0 < over) :
    ∃ m : Nat, fewerZ n cols over across = (m : Int) ∧ 1 ≤ m ∧ m < cols ∧ ∀ j, m < j → j ≤ cols → fitsB l most across j = false := by
  subst hl
  cases across with
  | true =>
    refine ⟨cols - 1, by show (cols : Int) - 1 = _; omega, by omega, by omega, fun j h1 h2 => ?_⟩
    obtain rfl : j = cols := by omega
    exact not_fits h0 (by omega)
  | false =>
    have h2 := least_two hc hn
    obtain ⟨m, hm⟩ : ∃ m : Nat, (m : Int) = max ((cols : Int) - ((over - 1) / 2 + 1)) ((rowsN l.length (rowsN l.length cols) : Int) - 1) := ⟨(max ((cols : Int) - ((over - 1) / 2 + 1)) ((rowsN l.length (rowsN l.length cols) : Int) - 1)).toNat, by omega⟩
    exact ⟨m, hm.symm, fewer_ok h0 hc hn over ho hp hm⟩
set_option maxHeartbeats 8000000 in
theorem taken_any (l : List ByteArray) (most : Int) (across : Bool) (g base : Nat) (w : World) (H : w.ownsRow base 3 1 (ownS g l.length) l.length (ints (wds l))) (hl : l.length ≤ 1000) (hz : ∀ x ∈ l, x.size ≤ 60000) (h0 : 0 < most) (h1 : most ≤ 9223372036854775807) :
    Calls Tryd.prog 25 #[ownS g l.length, .int .i64 most, .bool across] w fun e w' => e = .returned (sizeV (takenN l most across : Int) (rowsN l.length (takenN l most across) : Int)) ∧ Below w.heap.size w w' := by
  have HX := Lib.hid H
  have HZ := Lib.hid hz
  clear H hz
  obtain ⟨n, hn⟩ : ∃ n, l.length = n := ⟨_, rfl⟩
  have HN := Lib.hid hn
  have HCs := Lib.hid (fun (W : World) (hX : W.ownsRow base 3 1 (ownS g l.length) l.length (ints (wds l))) cols hc hm => colWidths_any l cols across g base W hX (by omega) HZ.out hc hm)
  rw [hn] at hl HX HCs ⊢
  clear hn
  obtain ⟨T, hT⟩ : ∃ T, takenN l most across = T := ⟨_, rfl⟩
  have HT := Lib.hid hT
  rw [hT]
  clear hT
  go_enter Tryd.func25, Tryd.ntmps25
  go_wp2_with fail
  have hmc := mostCols_any l most across g base w (by rw [HN.out]; exact HX.out) (by rw [HN.out]; exact hl) HZ.out h0 h1
  rw [HN.out] at hmc
  refine hmc.mono ?_
  clear hmc
  rintro e w2 ⟨⟨m0, rfl, hm1, hm2, hm3⟩, rfl⟩
  have HM := Lib.hid hm3
  clear hm3
  go_wp2_with fail
  refine (sized_any (n : Int) (m0 : Int) _ (by omega) (by omega) (by omega) (by omega)).mono ?_
  rintro e w2 ⟨rfl, rfl⟩
  rw [ceil_at (n := n) (m := m0) (by omega) (by omega)]
  go_wp2_with fail
  go_loopw [8] (TkRel l most across n w) (fun v _ => colsOf v)
  case atStart => exact ⟨m0, rfl, hm1, hm2, HM, Lib.hid (Below.refl _ _)⟩
  case round =>
    clear HM hm1 hm2
    obtain ⟨m, rfl, hm1, hm2, HM, HB⟩ := hrel
    have hgt := float_gt (m : Int) 1 (by omega) (by omega)
    rw [float_one] at hgt
    by_cases hi : 1 < m
    · have e1 : (FloatKind.f64.format.order (floatOfInt .f64 (m : Int)) 4607182418800017408 == some .gt) = true := hgt.trans (decide_eq_true (by omega))
      clear hgt
      go_wp2_with fail
      refine (HCs.out wr (owns_to HX.out (HB.out.mono (Nat.le_refl _))) m (by omega) hm2).mono ?_
      rintro e w2 ⟨g2, rfl, ho, hb⟩
      have HB2 := Lib.hid (below_two HB.out hb)
      have hlen : ((colsL l m across).map wideL).length = m := by rw [List.length_map, colsL_len]
      have hto := together_any ((colsL l m across).map wideL) g2 wr.heap.size w2 (by rw [hlen]; exact ho) (by omega) (fun x hx => by
        have := colW_bd (l := l) (cols := m) (across := across) (k := l.length) (j := 60000) (Nat.le_refl _) HZ.out x (by rw [colW_end]; exact hx)
        omega)
      rw [cols_sum, hlen] at hto
      have hsb := sum_small (l := l) (k := m) (j := 60000) (across := across) HZ.out
      have hsn := sumW_nonneg (colsL l m across)
      rw [colsL_len] at hsn
      have HFt := Lib.hid (fun h => fits_at (l := l) (most := most) (across := across) (k := m) h)
      have HFw := Lib.hid (fewer_next (l := l) (most := most) (across := across) (cols := m) HN.out h0 (by omega) hm2)
      obtain ⟨Z, hZ⟩ : ∃ Z, sumW (colsL l m across) = Z := ⟨_, rfl⟩
      rw [hZ] at hto hsb hsn HFt HFw
      clear hZ ho hb
      have hZ1 : 2 ≤ Z ∧ Z ≤ 1000000000 := by omega
      clear hsb hsn
      go_wp2_with fail
      refine hto.mono ?_
      clear hto hlen
      rintro e w3 ⟨rfl, rfl⟩
      by_cases hov : Z - 2 - most ≤ 0
      · have HR := Lib.hid (taken_is HN.out hm1 hm2 (.inr (HFt.out (by omega))) HM.out)
        obtain rfl : T = m := HT.out.symm.trans HR.out
        go_wp2_with fail
        go_ret
        exact ⟨rfl, HB2.out⟩
      · obtain ⟨m', q1, q2, q3, q4⟩ := HFw.out (Z - 2 - most) rfl (by omega)
        have HM2 := Lib.hid (show ∀ j, m' < j → j ≤ n → fitsB l most across j = false from fun j h2 h3 => by
          by_cases q : j ≤ m
          · exact q4 j h2 q
          · exact HM.out j (by omega) h3)
        clear q4
        have HQ := Lib.hid q1
        clear q1
        have HCo := Lib.hid (colsOf_size m (rowsN n m : Int) (by omega))
        have HCo2 := Lib.hid (colsOf_size m' (rowsN n m' : Int) (by omega))
        obtain ⟨O, hO⟩ : ∃ O, Z - 2 - most = O := ⟨_, rfl⟩
        have hO1 : 0 < O ∧ O ≤ 1000000000 := by omega
        rw [hO] at HQ
        have e2 : decide (O ≤ 0) = false := decide_eq_false (by omega)
        have HfO := Lib.hid (fewer_any n m O across w2 (by omega) hm2 (by omega) (by omega) (by omega))
        rw [HQ.out] at HfO
        go_wp2_with fail
        refine HfO.out.mono ?_
        rintro e w4 ⟨rfl, rfl⟩
        go_wp2_with fail
        refine (sized_any (n : Int) (m' : Int) _ (by omega) (by omega) (by omega) (by omega)).mono ?_
        rintro e w4 ⟨rfl, rfl⟩
        rw [ceil_at (n := n) (m := m') (by omega) (by omega)]
        go_wp2_with fail
        go_roundw
        case rel => exact ⟨m', rfl, by omega, by omega, HM2, HB2⟩
        case measure => rw [HCo.out, HCo2.out]; omega
    · have e1 : (FloatKind.f64.format.order (floatOfInt .f64 (m : Int)) 4607182418800017408 == some .gt) = false := hgt.trans (decide_eq_false (by omega))
      clear hgt
      have HR := Lib.hid (taken_is HN.out hm1 hm2 (.inl (by omega)) HM.out)
      obtain rfl : T = m := HT.out.symm.trans HR.out
      go_wp2_with fail
      go_ret
      exact ⟨rfl, HB.out⟩
end Go.Proofs.YtemnbleacjpfcaaDoor.L
