/-
  What the program's functions on widths return: the names' widths, and how wide all columns are together. Conditions: the names lie in memory, at most 1000 of them, of at most 60000 bytes.
-/
import Derived.Test.YtemnbleacjpfcaaDoorLNum
import Derived.Test.YtemnbleacjpfcaaDoorWMost
import Derived.Laws.MakeOwn
set_option linter.unusedVariables false
namespace Go.Proofs.YtemnbleacjpfcaaDoor.L
open Go.Proofs.YtemnbleacjpfcaaDoor.W hiding ret_int below_two
open Go.Proofs.YtemnbleacjpfcaaDoor.N hiding ret_int
open Go.Proofs.YtemnbleacjpfcaaDoor.B
open Go.RowKit

def ints (V : List Int) : List Value := V.map (Value.int .i64)
theorem ints_len (V : List Int) : (ints V).length = V.length := List.length_map _
theorem ints_at {V : List Int} {j : Nat} {x : Int} (h : V[j]? = some x) : (ints V)[j]? = some (.int .i64 x) := by
  unfold ints
  rw [List.getElem?_map, h]
  rfl
theorem ints_set (V : List Int) (j : Nat) (x : Int) : (ints V).set j (.int .i64 x) = ints (V.set j x) := by
  unfold ints
  rw [List.map_set]
theorem infoInt : (Tryd.prog.info? 3).map (fun i => (i.zero, i.size, i.bytes)) = some (some (.int .i64 0), 1, 8) := by kernel_rfl
theorem zeros_made (n : Nat) : (madeCells (Value.int .i64 0).cells (n * 1)).toList = ints (List.replicate n 0) := by
  have : (Value.int .i64 0).cells = #[.int .i64 0] := rfl
  rw [this, toList_madeCells_one, Nat.mul_one]
  unfold ints
  rw [List.map_replicate]

/-- The names lie in memory, from where the slice says. -/
def InL (w : World) (a : Option Addr) (l : List ByteArray) : Prop := l.length = 0 ∨ ∃ b off, a = some ⟨b, off, none⟩ ∧ ∀ i, i < l.length → w.cell? ⟨b, off + i, none⟩ = some (.string (atL l i))
theorem InL.keep {w w' : World} {a : Option Addr} {l : List ByteArray} (h : InL w a l) (hb : Below w.heap.size w w') : InL w' a l := by
  rcases h with h | ⟨b, off, ha, h⟩
  · exact .inl h
  · exact .inr ⟨b, off, ha, fun i hi => by rw [hb.cell (p := ⟨b, off + i, none⟩) (cell_lt (h i hi))]; exact h i hi⟩

def wds (l : List ByteArray) : List Int := l.map fun s => wd s 0
theorem wds_len (l : List ByteArray) : (wds l).length = l.length := List.length_map _
theorem wds_at {l : List ByteArray} {i : Nat} (h : i < l.length) : (wds l)[i]? = some (wd (atL l i) 0) := by
  unfold wds atL
  rw [List.getElem?_map, List.getElem?_eq_getElem h, List.getD_eq_getElem?_getD, List.getElem?_eq_getElem h]
  rfl
/-- The first k widths, and noughts. -/
def wdsK (l : List ByteArray) (k : Nat) : List Int := (wds l).take k ++ List.replicate (l.length - k) 0
theorem wdsK_len {l : List ByteArray} {k : Nat} (h : k ≤ l.length) : (wdsK l k).length = l.length := by
  unfold wdsK
  rw [List.length_append, List.length_take, wds_len, List.length_replicate]
  omega
theorem wdsK_zero (l : List ByteArray) : wdsK l 0 = List.replicate l.length 0 := rfl
theorem wdsK_end (l : List ByteArray) : wdsK l l.length = wds l := by
  unfold wdsK
  rw [Nat.sub_self, List.take_of_length_le (by rw [wds_len]; exact Nat.le_refl _)]
  exact List.append_nil _
theorem wdsK_at {l : List ByteArray} {k : Nat} (h : k < l.length) : (wdsK l k)[k]? = some 0 := by
  unfold wdsK
  rw [List.getElem?_append_right (by rw [List.length_take]; omega), List.length_take, wds_len, Nat.min_eq_left (by omega), Nat.sub_self, List.getElem?_replicate, if_pos (by omega)]
theorem wdsK_step {l : List ByteArray} {k : Nat} (h : k < l.length) : (wdsK l k).set k (wd (atL l k) 0) = wdsK l (k + 1) := by
  unfold wdsK
  obtain ⟨m, hm⟩ : ∃ m, l.length = k + 1 + m := ⟨l.length - (k + 1), by omega⟩
  rw [hm, show k + 1 + m - k = m + 1 by omega, show k + 1 + m - (k + 1) = m by omega, List.replicate_succ, List.set_append_right _ _ (by rw [List.length_take]; omega), List.length_take, wds_len, Nat.min_eq_left (by omega), Nat.sub_self, List.set_cons_zero, List.take_add_one, wds_at h, List.append_assoc]
  rfl
/-- A slice that a call has made, at a block of its own. -/
abbrev ownS (g n : Nat) : Value := .slice (some ⟨g, 0, none⟩) n n
def WdsRel (l : List ByteArray) (n g : Nat) (w : World) (v : Value) (wr : World) : Prop :=
  ∃ k : Nat, k ≤ n ∧ v = .int .i64 (k : Int) ∧ Hid (wr.ownsRow w.heap.size 3 1 (ownS g n) n (ints (wdsK l k))) ∧ Hid (Below w.heap.size w wr)
theorem own_step {W W' : World} {base : Nat} {e : TypeId} {g n : Nat} {V : List Int} (h : W.ownsRow base e 1 (ownS g n) n (ints V)) (hb : Below W.heap.size W W') {j : Nat} (hj : j < V.length) (x : Int) : (W'.setCell ⟨g, j, none⟩ (.int .i64 x)).ownsRow base e 1 (ownS g n) n (ints (V.set j x)) := by
  have := owns_setCell (owns_to h hb) (j := j) (by rw [ints_len]; exact hj) (.int .i64 x)
  rwa [ints_set] at this
theorem own_base {W : World} {base : Nat} {e : TypeId} {g n : Nat} {xs : List Value} (h : W.ownsRow base e 1 (ownS g n) n xs) : base ≤ g ∧ g < W.heap.size := h.lt g rfl
set_option maxHeartbeats 2000000 in
theorem widths_any (l : List ByteArray) (a : Option Addr) (cap : Nat) (w : World) (H : InL w a l) (hl : l.length ≤ 1000) (hz : ∀ x ∈ l, x.size ≤ 60000) (ht : Tab w) :
    Calls Tryd.prog 26 #[.slice a l.length cap] w fun e w' => ∃ g, e = .returned (ownS g l.length) ∧ w'.ownsRow w.heap.size 3 1 (ownS g l.length) l.length (ints (wds l)) ∧ Below w.heap.size w w' := by
  obtain ⟨i0, hi0, hz0, hz1, hz2⟩ := info_parts infoInt
  have HT := Lib.hid ht
  have HX := Lib.hid H
  have HZ := Lib.hid hz
  clear ht H hz
  obtain ⟨n, hn⟩ : ∃ n, l.length = n := ⟨_, rfl⟩
  have HN := Lib.hid hn
  rw [hn] at hl ⊢
  clear hn
  go_enter Tryd.func26, Tryd.ntmps26
  go_wp2_with (at_make; go_loud (refine wpList_make_full _ rfl (.tmp 7) (.tmp 7) 49 rfl w.heap.size 3 i0 (.int .i64 0) 1 Tryd.underlying49 hi0 hz0 hz1 .i64 .i64 _ _ n rfl rfl rfl rfl (by rw [hz2]; omega) (by unfold maxLen; omega) (Nat.le_refl _) ?_; intro w1 hown hgrow))
  rw [zeros_made] at hown
  have HO1 := Lib.hid (show w1.ownsRow w.heap.size 3 1 (ownS w.heap.size n) n (ints (wdsK l 0)) from by rw [wdsK_zero, HN.out]; exact hown)
  have HB1 := Lib.hid ((Below.refl w.heap.size w).grown hgrow (Nat.le_refl _) (fun j hj => by cases hj))
  clear hown hgrow
  go_loopw [11] (WdsRel l n w.heap.size w) (fun v _ => n - (intOf v).toNat)
  case atStart => exact ⟨0, Nat.zero_le _, rfl, HO1, HB1⟩
  case round =>
    obtain ⟨k, hk, rfl, HO, HB⟩ := hrel
    by_cases hi : k < n
    · have e1 : decide ((k : Int) < (n : Int)) = true := decide_eq_true (by omega)
      have hkl : k < l.length := by rw [HN.out]; exact hi
      rcases HX.out.keep HB.out with q | ⟨b, off, rfl, hcs⟩
      · omega
      have hcell := hcs k hkl
      have hsz := HZ.out _ (atL_mem hkl)
      have HS := Lib.hid (wdsK_step hkl)
      have HV := Lib.hid (wdsK_at hkl)
      have HL := Lib.hid (wdsK_len (l := l) (k := k) (by omega))
      clear hcs
      generalize atL l k = S at *
      go_wp2_with fail
      refine (of_any _ _ (by omega) (HT.out.keep HB.out)).mono ?_
      rintro e w2 ⟨rfl, hb2⟩
      have HO2 := Lib.hid (owns_to HO.out hb2)
      have HO3 := Lib.hid (own_step HO.out hb2 (j := k) (by rw [HL.out]; exact hkl) (wd S 0))
      have HB3 := Lib.hid ((below_two HB.out hb2).setCell (p := ⟨w.heap.size, k, none⟩) (Nat.le_refl _) (.int .i64 (wd S 0)))
      rw [HS.out] at HO3
      have a0 := owns_cell HO2.out (ints_at HV.out)
      have a1 := owns_frozen HO2.out k
      clear hb2 hcell
      go_wp2_with fail
      go_roundw
      case rel => exact ⟨k + 1, by omega, by go_num, HO3, HB3⟩
      case measure => simp [intOf]; omega
    · have e1 : decide ((k : Int) < (n : Int)) = false := decide_eq_false (by omega)
      have hkn : k = n := by omega
      subst hkn
      have HE := Lib.hid (show wdsK l k = wds l from by rw [← HN.out]; exact wdsK_end l)
      rw [HE.out] at HO
      go_wp2_with fail
      go_ret
      exact ⟨_, rfl, HO.out, HB.out⟩

/-! ### sums -/
def sumZ : List Int → Int
  | [] => 0
  | x :: r => x + sumZ r
theorem sumZ_snoc (x : Int) : ∀ V : List Int, sumZ (V ++ [x]) = sumZ V + x
  | [] => by simp [sumZ]
  | y :: r => by
    have := sumZ_snoc x r
    simp only [List.cons_append, sumZ]
    omega
theorem sumZ_take {V : List Int} {k : Nat} {x : Int} (h : V[k]? = some x) : sumZ (V.take (k + 1)) = sumZ (V.take k) + x := by
  rw [List.take_add_one, h]
  exact sumZ_snoc x _
theorem sumZ_bd {V : List Int} {m : Int} (h0 : 0 ≤ m) (h : ∀ x ∈ V, 0 ≤ x ∧ x ≤ m) : 0 ≤ sumZ V ∧ sumZ V ≤ m * (V.length : Int) := by
  induction V with
  | nil => simp [sumZ]
  | cons y r ih =>
    have h1 := ih fun x hx => h x (List.mem_cons_of_mem _ hx)
    have h2 := h y List.mem_cons_self
    simp only [sumZ, List.length_cons]
    have e : m * ((r.length + 1 : Nat) : Int) = m * (r.length : Int) + m := by rw [Int.natCast_add, Int.mul_add]; simp
    omega
theorem sumZ_wide (C : List (List ByteArray)) : sumW C = sumZ (C.map wideL) + 2 * (C.length : Int) := by
  induction C with
  | nil => simp [sumW, sumZ]
  | cons c C ih => simp only [sumW, List.map_cons, sumZ, List.length_cons, ih]; omega
def TogRel (V : List Int) (n : Nat) (w : World) (s v : Value) (wr : World) : Prop :=
  ∃ (k : Nat) (S : Int), k ≤ n ∧ v = .int .i64 (k : Int) ∧ s = .int .i64 S ∧ Hid (S = 2 * ((n : Int) - 1) + sumZ (V.take k)) ∧ w = wr
set_option maxHeartbeats 2000000 in
theorem together_any (V : List Int) (g base : Nat) (w : World) (H : w.ownsRow base 3 1 (ownS g V.length) V.length (ints V)) (hl : V.length ≤ 1000) (hz : ∀ x ∈ V, 0 ≤ x ∧ x ≤ 200000) :
    Calls Tryd.prog 37 #[ownS g V.length] w fun e w' => e = .returned (.int .i64 (2 * ((V.length : Int) - 1) + sumZ V)) ∧ w = w' := by
  have HX := Lib.hid H
  have HZ := Lib.hid hz
  clear H hz
  obtain ⟨n, hn⟩ : ∃ n, V.length = n := ⟨_, rfl⟩
  have HN := Lib.hid hn
  rw [hn] at hl HX ⊢
  clear hn
  go_enter Tryd.func37, Tryd.ntmps37
  go_wp2_with fail
  go_loopw [3, 12] (TogRel V n w) (fun _ v _ => n - (intOf v).toNat)
  case atStart => exact ⟨0, _, Nat.zero_le _, rfl, rfl, Lib.hid (by simp [sumZ]), rfl⟩
  case round =>
    obtain ⟨k, S, hk, rfl, rfl, HS, rfl⟩ := hrel
    have hb : 0 ≤ sumZ (V.take k) ∧ sumZ (V.take k) ≤ 200000 * ((V.take k).length : Int) := sumZ_bd (by omega) fun x hx => HZ.out x (List.mem_of_mem_take hx)
    have hS : -2 ≤ S ∧ S ≤ 1000000000 := by
      have h1 := HS.out
      have h2 : (V.take k).length ≤ n := by rw [List.length_take]; omega
      omega
    clear hb
    by_cases hi : k < n
    · have e1 : decide ((k : Int) < (n : Int)) = true := decide_eq_true (by omega)
      obtain ⟨x, hx⟩ : ∃ x, V[k]? = some x := ⟨_, List.getElem?_eq_getElem (by rw [HN.out]; exact hi)⟩
      have hxb := HZ.out x (List.mem_of_getElem? hx)
      have HT := Lib.hid (sumZ_take hx)
      have a0 := owns_cell HX.out (ints_at hx)
      clear hx
      go_wp2_with fail
      go_roundw
      case rel => exact ⟨k + 1, _, by omega, by go_num, rfl, Lib.hid (by rw [HT.out]; have := HS.out; omega), rfl⟩
      case measure => simp [intOf]; omega
    · have e1 : decide ((k : Int) < (n : Int)) = false := decide_eq_false (by omega)
      have hkn : k = n := by omega
      subst hkn
      go_wp2_with fail
      go_ret
      exact ⟨ret_int (by rw [HS.out, List.take_of_length_le (by rw [HN.out]; exact Nat.le_refl _)]), rfl⟩
end Go.Proofs.YtemnbleacjpfcaaDoor.L
