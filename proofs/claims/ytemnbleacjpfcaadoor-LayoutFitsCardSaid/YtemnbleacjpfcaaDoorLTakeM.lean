/-
  How many columns are taken, by a model: which numbers of columns need not be tried. Conditions: each fact's own.
-/
import Derived.Test.YtemnbleacjpfcaaDoorLRowM
set_option linter.unusedVariables false
namespace Go.Proofs.YtemnbleacjpfcaaDoor.L
open Go.Proofs.YtemnbleacjpfcaaDoor.W

/-! ### sums over a window -/
def winS (g : Nat → Int) (a : Nat) : Nat → Int
  | 0 => 0
  | n + 1 => winS g a n + g (a + n)
theorem winS_head (g : Nat → Int) (a n : Nat) : winS g a (n + 1) = g a + winS g (a + 1) n := by
  induction n with
  | zero => simp [winS]
  | succ n ih =>
    have e1 : winS g a (n + 1 + 1) = winS g a (n + 1) + g (a + (n + 1)) := rfl
    have e2 : winS g (a + 1) (n + 1) = winS g (a + 1) n + g (a + 1 + n) := rfl
    rw [e1, e2, ih, show a + (n + 1) = a + 1 + n by omega]
    omega
theorem winS_congr {g h : Nat → Int} {a : Nat} : ∀ n, (∀ j, a ≤ j → j < a + n → g j = h j) → winS g a n = winS h a n
  | 0, _ => rfl
  | n + 1, e => by rw [winS, winS, winS_congr n (fun j h1 h2 => e j h1 (by omega)), e (a + n) (by omega) (by omega)]
theorem winS_mono {g h : Nat → Int} {a : Nat} : ∀ n, (∀ j, a ≤ j → j < a + n → g j ≤ h j) → winS g a n ≤ winS h a n
  | 0, _ => Int.le_refl _
  | n + 1, e => by
    rw [winS, winS]
    have h1 := winS_mono n (fun j h1 h2 => e j h1 (by omega))
    have h2 := e (a + n) (by omega) (by omega)
    omega
theorem winS_more {g : Nat → Int} (hg : ∀ j, 0 ≤ g j) (a n : Nat) : ∀ m, winS g a n ≤ winS g a (n + m)
  | 0 => Int.le_refl _
  | m + 1 => by
    have h1 := winS_more hg a n m
    have h2 := hg (a + (n + m))
    show _ ≤ winS g a (n + m) + g (a + (n + m))
    omega
theorem winS_const (c : Int) (a : Nat) : ∀ n : Nat, winS (fun _ => c) a n = c * n
  | 0 => by simp [winS]
  | n + 1 => by
    rw [winS, winS_const c a n, Int.natCast_add, Int.mul_add]
    simp
/-- A whole turn's sum is one, wherever it begins. -/
theorem winS_turn (g : Nat → Int) (k a : Nat) : winS (fun j => g (j % k)) a k = winS g 0 k := by
  induction a with
  | zero => exact winS_congr k fun j _ h => by rw [Nat.mod_eq_of_lt (by omega)]
  | succ a ih =>
    have e1 := winS_head (fun j => g (j % k)) a k
    have e2 : winS (fun j => g (j % k)) a (k + 1) = winS (fun j => g (j % k)) a k + g ((a + k) % k) := rfl
    have e3 : (a + k) % k = a % k := Nat.add_mod_right a k
    rw [e3] at e2
    omega
theorem winS_app (g : Nat → Int) (a n : Nat) : ∀ m, winS g a (n + m) = winS g a n + winS g (a + n) m
  | 0 => by simp [winS]
  | m + 1 => by
    have h1 := winS_app g a n m
    have e1 : winS g a (n + (m + 1)) = winS g a (n + m) + g (a + (n + m)) := rfl
    have e2 : winS g (a + n) (m + 1) = winS g (a + n) m + g (a + n + m) := rfl
    rw [e1, e2, h1, show a + (n + m) = a + n + m by omega]
    omega

/-! ### all columns together -/
theorem sumW_range (F : Nat → List ByteArray) : ∀ k, sumW ((List.range k).map F) = winS (fun c => wideL (F c) + 2) 0 k
  | 0 => rfl
  | k + 1 => by
    rw [List.range_succ, List.map_append, List.map_cons, List.map_nil, sumW_snoc, sumW_range F k]
    show _ = winS _ 0 k + (wideL (F (0 + k)) + 2)
    rw [Nat.zero_add]
theorem colF_has {l : List ByteArray} {f : Nat → Nat} {k i : Nat} (h : i < k) : atL l i ∈ colF l f k (f i) :=
  List.mem_map.2 ⟨i, List.mem_filter.2 ⟨List.mem_range.2 h, beq_self_eq_true _⟩, rfl⟩
def countedZ (l : List ByteArray) (across : Bool) (j : Nat) : Int := if across = true then wd (atL l j) 0 else 0
theorem countedZ_bd (l : List ByteArray) (across : Bool) (j k : Nat) (h : (atL l j).size ≤ k) : 0 ≤ countedZ l across j ∧ countedZ l across j ≤ 2 * (k : Int) := by
  have := wd_bd (atL l j) 0
  unfold countedZ
  split <;> omega
/-- Names that follow one another stand in columns of their own. -/
theorem wide_window {l : List ByteArray} {across : Bool} {k a n : Nat} (hk : n ≤ k) (hn : a + n ≤ l.length) : winS (fun j => countedZ l across j + 2) a n ≤ sumW (colsL l k across) := by
  cases across with
  | false =>
    have e : winS (fun j => countedZ l false j + 2) a n = 2 * (n : Int) := by
      rw [show (fun j => countedZ l false j + 2) = fun _ => (2 : Int) from funext fun j => by simp [countedZ], winS_const]
    have h1 := sumW_nonneg (colsL l k false)
    rw [colsL_len] at h1
    rw [e]
    omega
  | true =>
    have e : sumW (colsL l k true) = winS (fun c => wideL (colF l (colOf l.length k true) l.length c) + 2) 0 k := sumW_range _ k
    rw [e, ← winS_turn _ k a]
    obtain ⟨m, rfl⟩ : ∃ m, k = n + m := ⟨k - n, by omega⟩
    refine Int.le_trans (winS_mono n fun j h1 h2 => ?_) (winS_more (fun j => ?_) a n m)
    · have := wideL_mem (colF_has (l := l) (f := colOf l.length (n + m) true) (k := l.length) (i := j) (by omega))
      have e3 : colOf l.length (n + m) true j = j % (n + m) := rfl
      rw [e3] at this
      show countedZ l true j + 2 ≤ wideL _ + 2
      have e4 : countedZ l true j = wd (atL l j) 0 := rfl
      omega
    · have := wideL_nonneg (colF l (colOf l.length (n + m) true) l.length (j % (n + m)))
      show 0 ≤ wideL _ + 2
      omega
theorem not_fits {l : List ByteArray} {most : Int} {across : Bool} {k : Nat} (h0 : 0 < most) (h : most < sumW (colsL l k across) - 2) : fitsB l most across k = false := by
  unfold fitsB
  rw [decide_eq_false (by omega), decide_eq_false (by omega)]
  rfl
theorem fits_at {l : List ByteArray} {most : Int} {across : Bool} {k : Nat} (h : sumW (colsL l k across) - 2 ≤ most) : fitsB l most across k = true := by
  unfold fitsB
  rw [decide_eq_true h, Bool.or_true]
theorem window_wide {l : List ByteArray} {most : Int} {across : Bool} {k a n : Nat} (h0 : 0 < most) (hk : n ≤ k) (hn : a + n ≤ l.length) (h : most < winS (fun j => countedZ l across j + 2) a n - 2) : fitsB l most across k = false := by
  have := wide_window (across := across) hk hn
  exact not_fits h0 (by omega)

/-! ### as many as fit -/
theorem best_of {l : List ByteArray} {most : Int} {across : Bool} {m : Nat} (h1 : 1 ≤ m) (hf : m = 1 ∨ fitsB l most across m = true) : ∀ d, (∀ k, m < k → k ≤ m + d → fitsB l most across k = false) → bestF l most across (m + d) = m
  | 0, _ => by
    rcases hf with rfl | hf
    · rfl
    · by_cases h : m = 1
      · rw [h]; rfl
      · rw [Nat.add_zero, best_step (by omega), if_pos hf]
  | d + 1, h => by
    rw [best_step (by omega), if_neg (by rw [h (m + (d + 1)) (by omega) (Nat.le_refl _)]; decide), show m + (d + 1) - 1 = m + d by omega]
    exact best_of h1 hf d fun k h2 h3 => h k h2 (by omega)
theorem best_is {l : List ByteArray} {most : Int} {across : Bool} {m n : Nat} (h1 : 1 ≤ m) (hn : m ≤ n) (hf : m = 1 ∨ fitsB l most across m = true) (h : ∀ k, m < k → k ≤ n → fitsB l most across k = false) : bestF l most across n = m := by
  obtain ⟨d, rfl⟩ : ∃ d, n = m + d := ⟨n - m, by omega⟩
  exact best_of h1 hf d h

/-! ### rows, and fewer columns with as many -/
theorem rowsN_alt {n d : Nat} (hn : 1 ≤ n) (hd : 1 ≤ d) : (n - 1) / d + 1 = rowsN n d := by
  unfold rowsN
  rw [show n + d - 1 = n - 1 + d by omega, Nat.add_div_right _ (by omega)]
theorem rowsN_le {n cols : Nat} (hc : 1 ≤ cols) : rowsN n cols ≤ n := by
  refine (rowsN_iff (by omega)).1 ?_
  exact Nat.le_mul_of_pos_right n (by omega)
theorem rowsN_anti {n a b : Nat} (ha : 1 ≤ a) (h : a ≤ b) : rowsN n b ≤ rowsN n a := by
  refine (rowsN_iff (by omega)).1 ?_
  have h1 := (rowsN_iff (n := n) (r := rowsN n a) (show 0 < a by omega)).2 (Nat.le_refl _)
  exact Nat.le_trans h1 (Nat.mul_le_mul_left _ h)
theorem least_le {n cols : Nat} (hn : 1 ≤ n) (hc : 1 ≤ cols) : rowsN n (rowsN n cols) ≤ cols := by
  have hr := rowsN_pos (n := n) (by omega) (show 0 < cols by omega)
  refine (rowsN_iff hr).1 ?_
  rw [Nat.mul_comm]
  exact (rowsN_iff (show 0 < cols by omega)).2 (Nat.le_refl _)
theorem least_two {n cols : Nat} (hc : 2 ≤ cols) (hn : cols ≤ n) : 2 ≤ rowsN n (rowsN n cols) := by
  have hr := rowsN_pos (n := n) (by omega) (show 0 < cols by omega)
  have h2 := rowsN_anti (n := n) (show 1 ≤ 2 by omega) hc
  have h3 : rowsN n 2 < n := by unfold rowsN; omega
  rcases Nat.lt_or_ge (rowsN n (rowsN n cols)) 2 with h | h
  · have h4 := (rowsN_iff (n := n) (r := 1) hr).2 (by omega)
    omega
  · exact h
theorem rows_kept {n cols k : Nat} (hn : 1 ≤ n) (hk : k ≤ cols) (hl : rowsN n (rowsN n cols) ≤ k) (h1 : 1 ≤ k) : rowsN n k = rowsN n cols := by
  have hr := rowsN_pos (n := n) (by omega) (show 0 < cols by omega)
  have h2 := rowsN_anti (n := n) h1 hk
  have h3 := (rowsN_iff (n := n) hr).2 hl
  have h4 : rowsN n k ≤ rowsN n cols := (rowsN_iff (n := n) (by omega)).1 (by rw [Nat.mul_comm]; exact h3)
  omega
theorem colF_none {l : List ByteArray} {f : Nat → Nat} {k c : Nat} (h : ∀ i, i < k → f i ≠ c) : colF l f k c = [] := by
  unfold colF
  rw [List.filter_eq_nil_iff.2 fun i hi => by simpa using h i (List.mem_range.1 hi)]
  rfl
/-- Down, while the rows stay as many, a column less takes a gap away and nothing else. -/
theorem sum_down {l : List ByteArray} {cols k : Nat} (hn : 1 ≤ l.length) (hk : k ≤ cols) (hl : rowsN l.length (rowsN l.length cols) ≤ k) (h1 : 1 ≤ k) : sumW (colsL l cols false) = sumW (colsL l k false) + 2 * ((cols - k : Nat) : Int) := by
  have er := rows_kept hn hk hl h1
  have e1 : sumW (colsL l cols false) = winS (fun c => wideL (colF l (fun i => i / rowsN l.length cols) l.length c) + 2) 0 cols := sumW_range _ cols
  have e2 : sumW (colsL l k false) = winS (fun c => wideL (colF l (fun i => i / rowsN l.length k) l.length c) + 2) 0 k := sumW_range _ k
  rw [er] at e2
  obtain ⟨m, rfl⟩ : ∃ m, cols = k + m := ⟨cols - k, by omega⟩
  rw [winS_app, ← e2] at e1
  rw [e1, show k + m - k = m by omega, ← winS_const 2 (0 + k) m]
  congr 1
  refine winS_congr m fun c h2 h3 => ?_
  have hr := rowsN_pos (n := l.length) (by omega) (show 0 < k + m by omega)
  rw [colF_none]
  · rfl
  · intro i hi e
    have h4 := (rowsN_iff (n := l.length) hr).2 hl
    have h5 : i / rowsN l.length (k + m) < k := (Nat.div_lt_iff_lt_mul hr).2 (by omega)
    omega
/-- What may be tried next, where these columns are too wide. -/
theorem fewer_ok {l : List ByteArray} {most : Int} {cols m : Nat} (h0 : 0 < most) (hc : 2 ≤ cols) (hn : cols ≤ l.length) (over : Int) (ho : over = sumW (colsL l cols false) - 2 - most) (hp : 0 < over)
    (hm : (m : Int) = max ((cols : Int) - ((over - 1) / 2 + 1)) ((rowsN l.length (rowsN l.length cols) : Int) - 1)) : 1 ≤ m ∧ m < cols ∧ ∀ k, m < k → k ≤ cols → fitsB l most false k = false := by
  have h2 := least_two hc hn
  have h3 := least_le (n := l.length) (cols := cols) (by omega) (by omega)
  refine ⟨by omega, by omega, fun k hk1 hk2 => not_fits h0 ?_⟩
  have e := sum_down (l := l) (cols := cols) (k := k) (by omega) hk2 (by omega) (by omega)
  omega

/-! ### where there is no bound -/
def boundZ (most : Int) : Int := if most ≤ 0 then 9223372036854775807 else most
theorem boundZ_pos (most : Int) : 0 < boundZ most := by unfold boundZ; split <;> omega
theorem fits_bound {l : List ByteArray} {most : Int} {across : Bool} {k : Nat} (hs : sumW (colsL l k across) ≤ 1000000000) : fitsB l (boundZ most) across k = fitsB l most across k := by
  unfold boundZ
  split
  · rename_i h
    rw [fits_at (by omega)]
    unfold fitsB
    rw [decide_eq_true h, Bool.true_or]
  · rfl
theorem best_bound {l : List ByteArray} {most : Int} {across : Bool} (hs : ∀ k, k ≤ l.length → sumW (colsL l k across) ≤ 1000000000) : ∀ k, k ≤ l.length → bestF l (boundZ most) across k = bestF l most across k
  | 0, _ => rfl
  | 1, _ => rfl
  | k + 2, h => by
    rw [bestF, bestF, fits_bound (hs (k + 2) h), best_bound hs (k + 1) (by omega)]
theorem sum_small {l : List ByteArray} {k j : Nat} {across : Bool} (hz : ∀ x ∈ l, x.size ≤ j) : sumW (colsL l k across) ≤ (2 * (j : Int) + 2) * (k : Int) := by
  have h := sumW_le (C := colsL l k across) (m := 2 * (j : Int)) fun c hc => wideL_small (k := j) fun x hx => hz x (colsL_mem hc hx)
  rwa [colsL_len] at h
end Go.Proofs.YtemnbleacjpfcaaDoor.L
