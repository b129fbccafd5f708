/-
  What the reference's Table returns: a table's lines. Conditions: the rows lie in memory, at most 1000 of them, texts of at most 1000000 bytes.
-/
import Derived.Test.YtknfhphhcnbndaaGreatDoorFJCells
import Derived.Test.YtknfhphhcnbndaaGreatDoorFJTable
set_option linter.unusedVariables false
set_option linter.unusedSimpArgs false
namespace Go.Proofs.YtknfhphhcnbndaaGreatDoor.J
open List renaming setIfInBounds_toArray → lt, set_cons_zero → l0, set_cons_succ → ls
open Go.Proofs.YtknfhphhcnbndaaGreatDoor.B
open Go.RowKit

/-- How wide a column is, cut. -/
def wideR (rs : List Row6) (c : Nat) : Nat := rs.foldl (fun m r => max m (min (r c).size 10000)) 0
theorem wideR_snoc (rs : List Row6) (r : Row6) (c : Nat) : wideR (rs ++ [r]) c = max (wideR rs c) (min (r c).size 10000) := by
  unfold wideR
  rw [List.foldl_append]
  rfl
theorem wideR_le (rs : List Row6) (c : Nat) : wideR rs c ≤ 10000 := by
  have key : ∀ (rs : List Row6) (m : Nat), m ≤ 10000 → rs.foldl (fun m r => max m (min (r c).size 10000)) m ≤ 10000 := fun rs => by
    induction rs with
    | nil => intro m h; exact h
    | cons x t ih =>
      intro m hm
      rw [List.foldl_cons]
      exact ih _ (by omega)
  exact key rs 0 (Nat.zero_le _)
theorem wideR_is {rs : List Row6} {c : Nat} (h : ∀ r ∈ rs, (r c).size ≤ 10000) : wideR rs c = wideJ rs c := by
  have key : ∀ (rs : List Row6) (m : Nat), (∀ r ∈ rs, (r c).size ≤ 10000) → rs.foldl (fun m r => max m (min (r c).size 10000)) m = rs.foldl (fun m r => max m (r c).size) m := fun rs => by
    induction rs with
    | nil => intro m _; rfl
    | cons x t ih =>
      intro m h
      have hx := h x List.mem_cons_self
      rw [List.foldl_cons, List.foldl_cons, show max m (min (x c).size 10000) = max m (x c).size by omega, ih _ fun r hr => h r (List.mem_cons_of_mem _ hr)]
  exact key rs 0 h
/-- In the midst of a row. -/
def midW (rs : List Row6) (r : Row6) (c : Nat) : Nat → Nat := fun j => if j < c then wideR (rs ++ [r]) j else wideR rs j
def wideA (f : Nat → Nat) : Array Value := #[.int .i64 (f 0 : Int), .int .i64 (f 1 : Int), .int .i64 (f 2 : Int), .int .i64 (f 3 : Int), .int .i64 (f 4 : Int), .int .i64 (f 5 : Int)]
theorem wide_get (f : Nat → Nat) {c : Nat} (hc : c < 6) : (wideA f)[c]? = some (.int .i64 (f c : Int)) := by
  rcases six_cases hc with rfl | rfl | rfl | rfl | rfl | rfl <;> rfl
theorem wide_set (f : Nat → Nat) (x : Nat) {c : Nat} (hc : c < 6) : (wideA f).setIfInBounds c (.int .i64 (x : Int)) = wideA (up f c x) := by
  rcases six_cases hc with rfl | rfl | rfl | rfl | rfl | rfl <;> rfl
theorem midW_step (rs : List Row6) (r : Row6) (c : Nat) : up (midW rs r c) c (max (midW rs r c c) (min (r c).size 10000)) = midW rs r (c + 1) := by
  have e : midW rs r c c = wideR rs c := by unfold midW; rw [if_neg (by omega)]
  rw [e, ← wideR_snoc]
  funext j
  unfold up
  by_cases h : j = c
  · subst h
    rw [if_pos rfl]
    unfold midW
    rw [if_pos (by omega)]
  · rw [if_neg h]
    unfold midW
    by_cases h2 : j < c
    · rw [if_pos h2, if_pos (by omega)]
    · rw [if_neg h2, if_neg (by omega)]
theorem midW_le (rs : List Row6) (r : Row6) (c j : Nat) : midW rs r c j ≤ 10000 := by
  unfold midW
  split <;> exact wideR_le _ _
theorem wideA_mid (rs : List Row6) (r : Row6) : wideA (midW rs r 6) = wideA (wideR (rs ++ [r])) := by
  have key : ∀ c, c < 6 → midW rs r 6 c = wideR (rs ++ [r]) c := fun c hc => by unfold midW; rw [if_pos hc]
  unfold wideA
  rw [key 0 (by decide), key 1 (by decide), key 2 (by decide), key 3 (by decide), key 4 (by decide), key 5 (by decide)]
theorem midW_zero (rs : List Row6) (r : Row6) : midW rs r 0 = wideR rs := by
  funext j
  unfold midW
  rw [if_neg (by omega)]
/-- A line's beginning. -/
def preL (w : Nat → Nat) (r : Row6) : Nat → ByteArray
  | 0 => r 0 ++ N.blankS (w 0 - (r 0).size)
  | c + 1 => preL w r c ++ (⟨#[32]⟩ ++ N.blankS (w (c + 1) - (r (c + 1)).size) ++ r (c + 1))
theorem line_pre (w : Nat → Nat) (r : Row6) : lineJ w r = preL w r 4 ++ ⟨#[32]⟩ ++ r 5 := by rw [line_is]; rfl
theorem pre_size {w : Nat → Nat} {r : Row6} {K : Nat} (h : ∀ c, c < 5 → (r c).size ≤ K ∧ w c ≤ K) : ∀ c, c < 5 → (preL w r c).size ≤ (c + 1) * (2 * K + 1)
  | 0, _ => by
    have := h 0 (by decide)
    show (r 0 ++ N.blankS (w 0 - (r 0).size)).size ≤ _
    rw [ByteArray.size_append, N.blankS_size]
    omega
  | c + 1, hc => by
    have ih := pre_size h c (by omega)
    have := h (c + 1) hc
    rw [preL, ByteArray.size_append, ByteArray.size_append, ByteArray.size_append, N.blankS_size]
    have e : (⟨#[32]⟩ : ByteArray).size = 1 := rfl
    rw [e, Nat.add_mul (c + 1) 1]
    omega
theorem pre_small {w : Nat → Nat} {r : Row6} (h : ∀ c, c < 5 → (r c).size ≤ 10000 ∧ w c ≤ 10000) {c : Nat} (hc : c < 5) : (preL w r c).size ≤ 200000 := by
  have k := pre_size (K := 10000) h
  rcases six_cases (show c < 6 by omega) with rfl | rfl | rfl | rfl | rfl | rfl
  · have := k 0 (by decide); omega
  · have := k 1 (by decide); omega
  · have := k 2 (by decide); omega
  · have := k 3 (by decide); omega
  · have := k 4 (by decide); omega
  · omega
theorem infoR6 : (Tryz.prog.info? 110).map (fun i => (i.zero, i.size, i.bytes)) = some (some (.agg #[.string ⟨#[]⟩, .string ⟨#[]⟩, .string ⟨#[]⟩, .string ⟨#[]⟩, .string ⟨#[]⟩, .string ⟨#[]⟩]), 6, 96) := by kernel_rfl
theorem arr6o (b o c : Nat) (w : World) (hc : c < 6) : (Instr.indexAt 110 (.pointer (some ⟨b, o, none⟩)) (.int .i64 (c : Int))).run Tryz.prog w = .ok (.pointer (some ⟨b, o + c, none⟩)) w := by
  have hu : Tryz.prog.underlying 110 = some (.array (Tryz.prog.arrayLen 110) (Tryz.prog.elem 110)) := by kernel_rfl
  have hl : Tryz.prog.arrayLen 110 = 6 := by kernel_rfl
  have hs : ∀ W : World, (sizeOf (Tryz.prog.elem 110)).run Tryz.prog W = .ok 1 W := fun W => by kernel_rfl
  rw [run_indexAt_array _ _ _ _ _ hu, hl, if_pos ⟨by omega, by omega⟩, hs]
  show Result.ok _ w = _
  rw [Addr.add_mid, Int.toNat_natCast, Nat.mul_one]
theorem arrW (b c : Nat) (w : World) (hc : c < 6) : (Instr.indexAt 113 (.pointer (some ⟨b, 0, none⟩)) (.int .i64 (c : Int))).run Tryz.prog w = .ok (.pointer (some ⟨b, c, none⟩)) w := by
  have hu : Tryz.prog.underlying 113 = some (.array (Tryz.prog.arrayLen 113) (Tryz.prog.elem 113)) := by kernel_rfl
  have hl : Tryz.prog.arrayLen 113 = 6 := by kernel_rfl
  have hs : ∀ W : World, (sizeOf (Tryz.prog.elem 113)).run Tryz.prog W = .ok 1 W := fun W => by kernel_rfl
  rw [run_indexAt_array _ _ _ _ _ hu, hl, if_pos ⟨by omega, by omega⟩, hs]
  show Result.ok _ w = _
  rw [Addr.add_mid, Int.toNat_natCast, Nat.mul_one, Nat.zero_add]
theorem exec_arr6o {o : Oper} {a : Act} {w : World} (x i : Operand) (ho : o.op = .indexAddr 110 x i) (b off c : Nat) (hc : c < 6) (hx : a.eval x = .pointer (some ⟨b, off, none⟩)) (hi : a.eval i = .int .i64 (c : Int)) : (execOp a.eval o).run Tryz.prog w = .ok (.value (.pointer (some ⟨b, off + c, none⟩))) w := by
  simp [execOp, ho, hx, hi, arr6o b off c w hc, Result.andThen]
theorem exec_arrW {o : Oper} {a : Act} {w : World} (x i : Operand) (ho : o.op = .indexAddr 113 x i) (b c : Nat) (hc : c < 6) (hx : a.eval x = .pointer (some ⟨b, 0, none⟩)) (hi : a.eval i = .int .i64 (c : Int)) : (execOp a.eval o).run Tryz.prog w = .ok (.value (.pointer (some ⟨b, c, none⟩))) w := by
  simp [execOp, ho, hx, hi, arrW b c w hc, Result.andThen]
theorem rows_take {R : List Rw} {k : Nat} {r : Rw} (h : R[k]? = some r) : rowsJ (R.take (k + 1)) = rowsJ (R.take k) ++ [textsJ r] := by
  rw [take_rw h]
  unfold rowsJ
  rw [List.map_append]
  rfl
def R1Rel (R : List Rw) (w : World) (v3 v4 : Value) (wr : World) : Prop :=
  ∃ k : Nat, k ≤ R.length ∧ v4 = .int .i64 (k : Int) ∧ Hid (wr.ownsRow w.heap.size 110 6 v3 (k + 1) (cellsC r6 (rowsJ (R.take k)))) ∧ Hid (Below w.heap.size w wr)
theorem owns_row6 {w : World} {g B : Nat} {r : Row6} (h : w.heap[g]? = some (.cells (r6 r).toArray 110 (0, 0))) (hb : B ≤ g) : w.ownsRow B 110 6 (.slice (some ⟨g, 0, none⟩) 1 1) 1 (cellsC r6 [r]) := by
  have e : cellsC r6 [r] = r6 r := by rw [cellsC, cellsC, List.append_nil]
  rw [e]
  exact ⟨rfl, .inr ⟨g, 1, (r6 r).toArray, rfl, hb, h, Nat.le_refl _, by unfold maxLen; omega, rfl, rfl⟩⟩
theorem r6_ones (r : Row6) : ∀ u ∈ r6 r, u.oneCell' = true := fun u hu => by
  simp only [r6, List.mem_cons, List.mem_nil_iff, or_false] at hu
  rcases hu with rfl | rfl | rfl | rfl | rfl | rfl <;> rfl

def R2Rel (Z : List Row6) (WB : Nat) (wq : World) (v : Value) (wr : World) : Prop := ∃ k : Nat, k ≤ Z.length ∧ v = .int .i64 (k : Int) ∧ Hid (wr.heap[WB]? = some (.cells (wideA (wideR (Z.take k))) 113 (0, 0))) ∧ Hid (Below WB wq wr)
def R3Rel (F : Nat → Nat → Nat) (WB : Nat) (wq : World) (v : Value) (wr : World) : Prop := ∃ c : Nat, c ≤ 6 ∧ v = .int .i64 (c : Int) ∧ Hid (wr.heap[WB]? = some (.cells (wideA (F c)) 113 (0, 0))) ∧ Hid (Below WB wq wr)
theorem cell_lt6 {w : World} {a : Addr} {v : Value} (h : w.cell? a = some v) : a.block < w.heap.size := by
  apply Classical.byContradiction
  intro hn
  have : w.heap[a.block]? = none := Array.getElem?_eq_none (by omega)
  unfold World.cell? at h
  simp [this] at h
theorem line_congr {F W : Nat → Nat} (h : ∀ c, c < 5 → F c = W c) (r : Row6) : lineJ F r = lineJ W r := by
  rw [line_is, line_is, h 0 (by decide), h 1 (by decide), h 2 (by decide), h 3 (by decide), h 4 (by decide)]
def R5Rel (F : Nat → Nat) (r : Row6) (w8 : World) (v10 v11 : Value) (wr : World) : Prop := ∃ (c : Nat) (p : ByteArray), 1 ≤ c ∧ c ≤ 5 ∧ v11 = .int .i64 (c : Int) ∧ v10 = .string p ∧ Hid (p = preL F r (c - 1)) ∧ Hid (Below w8.heap.size w8 wr)
theorem pre_step (F : Nat → Nat) (r : Row6) {c : Nat} (h : 1 ≤ c) : preL F r (c + 1 - 1) = preL F r (c - 1) ++ (⟨#[32]⟩ ++ N.blankS (F c - (r c).size) ++ r c) := by
  obtain ⟨j, rfl⟩ : ∃ j, c = j + 1 := ⟨c - 1, by omega⟩
  rfl
def R4Rel (Z : List Row6) (F : Nat → Nat) (w8 : World) (v8 v9 : Value) (wr : World) : Prop := ∃ k : Nat, k ≤ Z.length ∧ v9 = .int .i64 (k : Int) ∧ Hid (wr.ownsRow w8.heap.size 9 1 v8 k (strs ((Z.take k).map (lineJ F)))) ∧ Hid (Below w8.heap.size w8 wr)
theorem take_six {Z : List Row6} {k : Nat} {r : Row6} (h : Z[k]? = some r) : Z.take (k + 1) = Z.take k ++ [r] := by
  obtain ⟨hk, he⟩ := List.getElem?_eq_some_iff.1 h
  rw [List.take_succ_eq_append_getElem hk, he]

set_option maxRecDepth 100000 in
set_option maxHeartbeats 16000000 in
theorem refTable_any (R : List Rw) (ra : Option Addr) (rc : Nat) (w : World) (HR : RowL 6 rwC w ra R) (hl : R.length ≤ 1000) (hR : ∀ r ∈ R, OkR r) :
    Calls Tryz.prog 20 #[.slice ra R.length rc] w fun e w' => ∃ v, e = .returned v ∧ w'.ownsRow w.heap.size 9 1 v (tableJ R).length (strs (tableJ R)) ∧ Below w.heap.size w w' := by
  obtain ⟨i0, hi0, hz0, hz1, hz2⟩ := info_parts infoStr
  obtain ⟨j0, hj0, hy0, hy1, hy2⟩ := info_parts infoR6
  have HRl := Lib.hid HR
  have HCl := Lib.hid (fun (r : Rw) (hr : r ∈ R) (W : World) => refCells_any r W (hR r hr))
  have HOk := Lib.hid hR
  clear HR hR
  go_enter Tryz.func20, Tryz.ntmps20
  go_upto_region 2 with fail
  generalize hw1 : w.alloc (.cells _ 110) = w1
  have HB1 := Lib.hid (show Below w.heap.size w w1 from by rw [← hw1]; exact (Below.refl _ _).alloc (Nat.le_refl _) _)
  have HO1 := Lib.hid (show w1.ownsRow w.heap.size 110 6 (.slice (some ⟨w.heap.size, 0, none⟩) 1 1) (0 + 1) (cellsC r6 (rowsJ (R.take 0))) from by rw [← hw1]; exact owns_row6 (r := headsJ) (heap_alloc_new w _) (Nat.le_refl _))
  clear hw1
  go_wp2_with fail
  go_loopw [3, 4] (R1Rel R w) (fun _ v _ => R.length - (intOf v).toNat)
  case atStart => exact ⟨0, Nat.zero_le _, rfl, HO1, HB1⟩
  case round =>
    clear HO1 HB1
    obtain ⟨k, hk, rfl, HO, HB⟩ := hrel
    by_cases hlt : k < R.length
    · have d0 : decide ((k : Int) < (R.length : Int)) = true := decide_eq_true (by omega)
      obtain ⟨r, hr⟩ : ∃ r, R[k]? = some r := ⟨_, List.getElem?_eq_getElem hlt⟩
      obtain ⟨g, o, hra, _, hrg⟩ := (HRl.out.keep HB.out).at_ hr
      subst hra
      have HRg := Lib.hid hrg
      have HTk := Lib.hid (show cellsC r6 (rowsJ (R.take (k + 1))) = cellsC r6 (rowsJ (R.take k)) ++ r6 (textsJ r) from by rw [rows_take hr, cellsC_app, cellsC_one])
      have HCr := Lib.hid (HCl.out r (List.mem_of_getElem? hr))
      have HOn := Lib.hid (r6_ones (textsJ r))
      have HRl6 := Lib.hid (show (r6 (textsJ r)).length = 1 * 6 from rfl)
      clear hr hrg
      unfold rwC at HRg HCr
      obtain ⟨ao, ac, hv3⟩ := owns_form HO.out
      subst hv3
      go_wp2_with (refine wpList_load_mid rfl 38 (.tmp 23) rfl g (o + k * 6) rfl _ _ HRg.out Tryz.underlying38 rfl sizeRw ?_)
      refine (HCr.out _).mono ?_
      rintro e w5 ⟨rfl, hb5⟩
      have HO5 := Lib.hid (owns_to HO.out hb5)
      have HB5 := Lib.hid (HB.out.trans (hb5.mono HB.out.size))
      clear hb5 HO HB HRg HCr
      unfold r6 at HOn HRl6 HTk ⊢
      have HAa := Lib.hid (show Below w5.heap.size w5 (w5.alloc (.cells #[.string (textsJ r 0), .string (textsJ r 1), .string (textsJ r 2), .string (textsJ r 3), .string (textsJ r 4), .string (textsJ r 5)] 110)) from (Below.refl _ _).alloc (Nat.le_refl _) _)
      go_wp2_with (at_builtin; go_loud (refine wpList_append_lies _ rfl (.tmp 20) (.tmp 26) 111 rfl w.heap.size 110 j0 _ 6 96 Tryz.underlying111 hj0 hy0 hy1 hy2 rfl (by decide) (.slice ao (k + 1) ac) (k + 1) (cellsC (fun r => [.string (r 0), .string (r 1), .string (r 2), .string (r 3), .string (r 4), .string (r 5)]) (rowsJ (R.take k))) rfl (by with_reducible exact owns_to HO5.out HAa.out) ⟨w5.heap.size, 0, none⟩ 1 1 [.string (textsJ r 0), .string (textsJ r 1), .string (textsJ r 2), .string (textsJ r 3), .string (textsJ r 4), .string (textsJ r 5)] rfl rfl (World.news_of_block (heap_alloc_new _ _)) HOn.out (by decide) (by unfold maxLen; omega) (by omega) (Nat.le_trans HB5.out.size HAa.out.size) _ rfl ?_; intro g1 cap1 w11 hown hgrow hat hlt1))
      refine ⟨⟨k + 1, by omega, by simp, Lib.hid ?_, Lib.hid ((HB5.out.trans (HAa.out.mono HB5.out.size)).grown hgrow (Nat.le_trans HB5.out.size HAa.out.size) (fun j hj => (HO5.out.lt j hj).1))⟩, by simp [intOf]; omega⟩
      show w11.ownsRow w.heap.size 110 6 _ _ (cellsC (fun r => [.string (r 0), .string (r 1), .string (r 2), .string (r 3), .string (r 4), .string (r 5)]) (rowsJ (R.take (k + 1))))
      rw [HTk.out]
      exact hown
    · obtain rfl : k = R.length := by omega
      have d0 : decide (((R.length : Nat) : Int) < (R.length : Int)) = false := decide_eq_false (by omega)
      rw [List.take_length] at HO
      have HRn := Lib.hid (show (rowsJ R).length = R.length + 1 from by unfold rowsJ; simp)
      have HSm := Lib.hid (show ∀ r ∈ rowsJ R, (∀ c, c < 5 → (r c).size ≤ 22) ∧ (r 5).size ≤ 1000000 from fun r hr => ⟨fun c hc => rows_size HOk.out hc r hr, rows_size5 HOk.out r hr⟩)
      have HWi := Lib.hid (show ∀ c, c < 5 → wideR (rowsJ R) c = wideJ (rowsJ R) c from fun c hc => wideR_is fun r hr => by have := rows_size HOk.out hc r hr; omega)
      have HTb := Lib.hid (show tableJ R = (rowsJ R).map (lineJ (wideJ (rowsJ R))) from rfl)
      obtain ⟨A, hA⟩ : ∃ A, tableJ R = A := ⟨_, rfl⟩
      rw [hA] at HTb
      have HA := Lib.hid hA
      clear hA
      generalize rowsJ R = Z at HO HRn HSm HWi HTb
      obtain ⟨gz, cz, hv3, hcz, _⟩ := owns_some HO.out (by omega)
      subst hv3
      obtain ⟨n, hn⟩ : ∃ n, R.length + 1 = n := ⟨_, rfl⟩
      have hn1 : n ≤ 1001 := by omega
      rw [hn] at HO HRn ⊢
      clear HCl HOk hcz hn
      go_upto_region 7 with fail
      have HB6 := Lib.hid (show Below wr.heap.size wr (wr.alloc (.cells #[.int .i64 0, .int .i64 0, .int .i64 0, .int .i64 0, .int .i64 0, .int .i64 0] 113)) from (Below.refl _ _).alloc (Nat.le_refl _) _)
      have HW6 := Lib.hid (show (wr.alloc (.cells #[.int .i64 0, .int .i64 0, .int .i64 0, .int .i64 0, .int .i64 0, .int .i64 0] 113)).heap[wr.heap.size]? = some (.cells (wideA (wideR (Z.take 0))) 113 (0, 0)) from heap_alloc_new _ _)
      generalize wr.alloc (.cells #[.int .i64 0, .int .i64 0, .int .i64 0, .int .i64 0, .int .i64 0, .int .i64 0] 113) = w6 at HB6 HW6 ⊢
      have HCe := Lib.hid (show ∀ (X : World), Below wr.heap.size wr X → ∀ (i c : Nat) (r : Row6), Z[i]? = some r → c < 6 → X.cell? ⟨gz, i * 6 + c, none⟩ = some (.string (r c)) from fun X hX i c r hr hc => owns_cell (owns_to HO.out hX) (by rw [cellsC_get r6_len Z i c r hr hc]; exact r6_get r hc))
      obtain ⟨WB, hWB⟩ : ∃ WB, wr.heap.size = WB := ⟨_, rfl⟩
      have HWB := Lib.hid hWB
      rw [hWB] at HW6 HB6 HCe ⊢
      clear hWB
      have HBw := Lib.hid (show ∀ X, Below WB wr X → Below w.heap.size w X from fun X hX => HB.out.trans (hX.mono (by rw [← HWB.out]; exact HB.out.size)))
      obtain ⟨wq, rfl⟩ : ∃ wq, wq = wr := ⟨_, rfl⟩
      clear HB
      go_wp2_with fail
      go_loopw [6] (R2Rel Z WB wq) (fun v _ => Z.length - (intOf v).toNat)
      case atStart => exact ⟨0, Nat.zero_le _, rfl, HW6, HB6⟩
      case round =>
        clear HW6 HB6
        obtain ⟨k, hk, rfl, HW, HBr⟩ := hrel
        have hZl := HRn.out
        by_cases hlt : k < n
        · have d1 : decide ((k : Int) < (n : Int)) = true := decide_eq_true (by omega)
          obtain ⟨r, hr⟩ : ∃ r, Z[k]? = some r := ⟨_, List.getElem?_eq_getElem (by omega)⟩
          have HTk := Lib.hid (show wideA (midW (Z.take k) r 6) = wideA (wideR (Z.take (k + 1))) from by rw [wideA_mid, take_six hr])
          have HMs := Lib.hid (midW_step (Z.take k) r)
          have HMl := Lib.hid (midW_le (Z.take k) r)
          have HRc := Lib.hid (fun (X : World) (hX : Below WB wq X) (c : Nat) (hc : c < 6) => HCe.out X hX k c r hr hc)
          have HSr := Lib.hid (HSm.out r (List.mem_of_getElem? hr))
          clear hr hZl
          rw [← midW_zero (Z.take k) r] at HW
          go_wp2_with fail
          go_loopw [7] (R3Rel (midW (Z.take k) r) WB wq) (fun v _ => 6 - (intOf v).toNat)
          case atStart => exact ⟨0, by omega, rfl, HW, HBr⟩
          case round =>
            clear HW HBr
            obtain ⟨c, hc, rfl, HW, HBr⟩ := hrel
            by_cases hc6 : c < 6
            · have d2 : decide ((c : Int) < 6) = true := decide_eq_true (by omega)
              have HFs := Lib.hid (HMs.out c)
              have HFl := Lib.hid (HMl.out c c)
              have hfl := HFl.out
              have HRz := Lib.hid (show (r c).size ≤ 1000000 from by
                obtain ⟨h1, h2⟩ := HSr.out
                by_cases h5 : c < 5
                · have := h1 c h5; omega
                · obtain rfl : c = 5 := by omega
                  exact h2)
              have hrz := HRz.out
              generalize midW (Z.take k) r c = f at HW HFs hfl HFl
              have HKp := Lib.hid (show ∀ Y, Below wr.heap.size wr Y → Y.cell? ⟨gz, k * 6 + c, none⟩ = some (.string (r c)) ∧ Y.cell? ⟨WB, c, none⟩ = some (.int .i64 (f c : Int)) ∧ Y.frozen? ⟨WB, c, none⟩ = false ∧ (Y.setCell ⟨WB, c, none⟩ (.int .i64 (max (f c : Int) (min ((r c).size : Int) 10000)))).heap[WB]? = some (.cells (wideA (midW (Z.take k) r (c + 1))) 113 (0, 0)) ∧ Below WB wq (Y.setCell ⟨WB, c, none⟩ (.int .i64 (max (f c : Int) (min ((r c).size : Int) 10000)))) from fun Y hY => by
                have hBY := HBr.out.trans (hY.mono (Nat.le_of_lt (heap_lt HW.out)))
                have hWY := (hY.block _ (heap_lt HW.out)).trans HW.out
                refine ⟨HRc.out Y hBY c hc6, by rw [cell_of_row _ _ _ _ _ _ hWY]; exact wide_get f hc6, frozen_of_row _ _ _ _ _ hWY, ?_, hBY.setCell (p := ⟨WB, c, none⟩) (Nat.le_refl _) _⟩
                rw [heap_setCell_same _ _ _ _ _ _ hWY, show max (f c : Int) (min ((r c).size : Int) 10000) = ((max (f c) (min (r c).size 10000) : Nat) : Int) by omega, wide_set f _ hc6, HFs.out])
              generalize r c = tx at HKp hrz HRz
              clear HFs HRc
              go_upto_region 13 with fail
-- TILL 13
              refine B.Till.region (z := 14) (S := fun w' => Below wr.heap.size wr w') (by kernel_rfl) ((Below.refl _ _).drew) (fun hHeld => ?_)
              refine B.Till.take (i := 0) (oi := ⟨some 38, .move (.tmp 7), 3, "ref.go:105", #[], none⟩) (v := .int .i64 (c : Int)) rfl (by kernel_rfl) (by kernel_rfl) (by kernel_rfl) (by kernel_rfl) (fun _ _ _ h => h) (Or.inl ⟨by rfl, fun w0 hS0 => ?_⟩) (by assumption) ?_
              · go_simp
              try simp only [Act.put, lt, l0, ls]
              refine B.Till.take (i := 1) (oi := ⟨some 39, .move (.tmp 7), 3, "ref.go:105", #[], none⟩) (v := .int .i64 (c : Int)) rfl (by kernel_rfl) (by kernel_rfl) (by kernel_rfl) (by kernel_rfl) (fun _ _ _ h => h) (Or.inl ⟨by rfl, fun w0 hS0 => ?_⟩) (by assumption) ?_
              · go_simp
              try simp only [Act.put, lt, l0, ls]
              refine B.Till.take (i := 2) (oi := ⟨some 40, .indexAddr 113 (.tmp 5) (.tmp 39), 0, "ref.go:105", #[⟨1, .data⟩], none⟩) (v := .pointer (some ⟨WB, c, none⟩)) rfl (by kernel_rfl) (by kernel_rfl) (by kernel_rfl) (by kernel_rfl) (fun _ _ _ h => h) (Or.inl ⟨by rfl, fun w0 hS0 => exec_arrW (.tmp 5) (.tmp 39) rfl WB c hc6 rfl rfl⟩) (by assumption) ?_
              try simp only [Act.put, lt, l0, ls]
              refine B.Till.take (i := 3) (oi := ⟨some 41, .load 3 (.tmp 40), 3, "ref.go:105", #[⟨2, .data⟩], none⟩) (v := .int .i64 (f c : Int)) rfl (by kernel_rfl) (by kernel_rfl) (by kernel_rfl) (by kernel_rfl) (fun _ _ _ h => h) (Or.inl ⟨by rfl, fun w0 hS0 => ?_⟩) (by assumption) ?_
              · have b4 := (HKp.out _ hS0).2.1; go_simp
              try simp only [Act.put, lt, l0, ls]
              refine B.Till.take (i := 4) (oi := ⟨some 42, .move (.tmp 3), 111, "ref.go:105", #[], none⟩) (v := .slice (some ⟨gz, 0, none⟩) n cz) rfl (by kernel_rfl) (by kernel_rfl) (by kernel_rfl) (by kernel_rfl) (fun _ _ _ h => h) (Or.inl ⟨by rfl, fun w0 hS0 => ?_⟩) (by assumption) ?_
              · go_simp
              try simp only [Act.put, lt, l0, ls]
              refine B.Till.take (i := 5) (oi := ⟨some 43, .move (.tmp 6), 3, "ref.go:105", #[], none⟩) (v := .int .i64 (k : Int)) rfl (by kernel_rfl) (by kernel_rfl) (by kernel_rfl) (by kernel_rfl) (fun _ _ _ h => h) (Or.inl ⟨by rfl, fun w0 hS0 => ?_⟩) (by assumption) ?_
              · go_simp
              try simp only [Act.put, lt, l0, ls]
              refine B.Till.take (i := 6) (oi := ⟨some 44, .move (.tmp 7), 3, "ref.go:105", #[], none⟩) (v := .int .i64 (c : Int)) rfl (by kernel_rfl) (by kernel_rfl) (by kernel_rfl) (by kernel_rfl) (fun _ _ _ h => h) (Or.inl ⟨by rfl, fun w0 hS0 => ?_⟩) (by assumption) ?_
              · go_simp
              try simp only [Act.put, lt, l0, ls]
              refine B.Till.take (i := 7) (oi := ⟨some 45, .indexAddr 111 (.tmp 42) (.tmp 43), 0, "ref.go:105", #[⟨4, .data⟩, ⟨5, .data⟩], none⟩) (v := .pointer (some ⟨gz, k * 6, none⟩)) rfl (by kernel_rfl) (by kernel_rfl) (by kernel_rfl) (by kernel_rfl) (fun _ _ _ h => h) (Or.inl ⟨by rfl, fun w0 hS0 => ?_⟩) (by assumption) ?_
              · have hkk : ¬ ((n : Int) ≤ (k : Int)) := by omega
                go_simp
              try simp only [Act.put, lt, l0, ls]
              refine B.Till.take (i := 8) (oi := ⟨some 46, .indexAddr 110 (.tmp 45) (.tmp 44), 0, "ref.go:105", #[⟨7, .data⟩, ⟨6, .data⟩], none⟩) (v := .pointer (some ⟨gz, k * 6 + c, none⟩)) rfl (by kernel_rfl) (by kernel_rfl) (by kernel_rfl) (by kernel_rfl) (fun _ _ _ h => h) (Or.inl ⟨by rfl, fun w0 hS0 => exec_arr6o (.tmp 45) (.tmp 44) rfl gz (k * 6) c hc6 rfl rfl⟩) (by assumption) ?_
              try simp only [Act.put, lt, l0, ls]
              refine B.Till.take (i := 9) (oi := ⟨some 47, .load 9 (.tmp 46), 9, "ref.go:105", #[⟨8, .data⟩], none⟩) (v := .string tx) rfl (by kernel_rfl) (by kernel_rfl) (by kernel_rfl) (by kernel_rfl) (fun _ _ _ h => h) (Or.inl ⟨by rfl, fun w0 hS0 => ?_⟩) (by assumption) ?_
              · have b4 := (HKp.out _ hS0).1; go_simp
              try simp only [Act.put, lt, l0, ls]
              refine B.Till.take (i := 10) (oi := ⟨some 48, .call ⟨.builtin .len, #[.tmp 47], #[9]⟩, 3, "ref.go:105", #[⟨9, .data⟩], none⟩) (v := .int .i64 (tx.size : Int)) rfl (by kernel_rfl) (by kernel_rfl) (by kernel_rfl) (by kernel_rfl) (fun _ _ _ h => h) (Or.inl ⟨by rfl, fun w0 hS0 => ?_⟩) (by assumption) ?_
              · go_simp
              try simp only [Act.put, lt, l0, ls]
              refine B.Till.take (i := 11) (oi := ⟨some 49, .call ⟨.builtin .min, #[.tmp 48, .const (.int .i64 10000)], #[3, 3]⟩, 3, "ref.go:105", #[⟨10, .data⟩], none⟩) (v := .int .i64 (min (tx.size : Int) 10000)) rfl (by kernel_rfl) (by kernel_rfl) (by kernel_rfl) (by kernel_rfl) (fun _ _ _ h => h) (Or.inl ⟨by rfl, fun w0 hS0 => by first | (go_simp; done) | (go_simp; split <;> omega)⟩) (by assumption) ?_
              try simp only [Act.put, lt, l0, ls]
              refine B.Till.take (i := 12) (oi := ⟨some 50, .call ⟨.builtin .max, #[.tmp 41, .tmp 49], #[3, 3]⟩, 3, "ref.go:105", #[⟨3, .data⟩, ⟨11, .data⟩], none⟩) (v := .int .i64 (max (f c : Int) (min (tx.size : Int) 10000))) rfl (by kernel_rfl) (by kernel_rfl) (by kernel_rfl) (by kernel_rfl) (fun _ _ _ h => h) (Or.inl ⟨by rfl, fun w0 hS0 => by first | (go_simp; done) | (go_simp; split <;> omega)⟩) (by assumption) ?_
              try simp only [Act.put, lt, l0, ls]
              refine B.Till.take (i := 13) (oi := ⟨some 51, .indexAddr 113 (.tmp 5) (.tmp 38), 0, "ref.go:105", #[⟨0, .data⟩, ⟨0, .phase⟩, ⟨1, .phase⟩, ⟨2, .phase⟩, ⟨3, .phase⟩, ⟨4, .phase⟩, ⟨5, .phase⟩, ⟨6, .phase⟩, ⟨7, .phase⟩, ⟨8, .phase⟩, ⟨9, .phase⟩, ⟨10, .phase⟩, ⟨11, .phase⟩, ⟨12, .phase⟩], none⟩) (v := .pointer (some ⟨WB, c, none⟩)) rfl (by kernel_rfl) (by kernel_rfl) (by kernel_rfl) (by kernel_rfl) (fun _ _ _ h => h) (Or.inl ⟨by rfl, fun w0 hS0 => exec_arrW (.tmp 5) (.tmp 38) rfl WB c hc6 rfl rfl⟩) (by assumption) ?_
              try simp only [Act.put, lt, l0, ls]
              refine B.Till.next (i := 14) (o := ⟨none, .store 3 (.tmp 51) (.tmp 50), 0, "ref.go:105", #[⟨13, .data⟩, ⟨12, .data⟩, ⟨0, .phase⟩, ⟨1, .phase⟩, ⟨2, .phase⟩, ⟨3, .phase⟩, ⟨4, .phase⟩, ⟨5, .phase⟩, ⟨6, .phase⟩, ⟨7, .phase⟩, ⟨8, .phase⟩, ⟨9, .phase⟩, ⟨10, .phase⟩, ⟨11, .phase⟩, ⟨12, .phase⟩], none⟩) (by kernel_rfl) rfl (fun K hK => ?_)
              have HKe := Lib.hid (HKp.out _ hHeld)
              have q3 := HKe.out.2.1
              have q4 := HKe.out.2.2.1
              go_simp
              refine hK.out _ _ (fun q => absurd rfl q) ?_
              clear hK K
              try simp only [Act.put, lt, l0, ls]
              refine B.Till.done (by kernel_rfl) ?_
-- TILL 13 END
              go_wp2_with fail
              go_roundw
              case rel => exact ⟨c + 1, by omega, by simp, Lib.hid HKe.out.2.2.2.1, Lib.hid HKe.out.2.2.2.2⟩
              case measure => simp [intOf]; omega
            · obtain rfl : c = 6 := by omega
              have d2 : decide (((6 : Nat) : Int) < 6) = false := by decide
              rw [HTk.out] at HW
              go_wp2_with fail
              go_roundw
              case rel => exact ⟨k + 1, by have := HRn.out; omega, by simp, HW, HBr⟩
              case measure => simp [intOf]; have := HRn.out; omega
        · obtain rfl : n = k := by omega
          have d1 : decide ((n : Int) < (n : Int)) = false := decide_eq_false (by omega)
          rw [← HRn.out, List.take_length] at HW
          rw [← HRn.out] at hlt
          have HWl := Lib.hid (fun c => wideR_le Z c)
          obtain ⟨F, hF⟩ : ∃ F, wideR Z = F := ⟨_, rfl⟩
          rw [hF] at HW HWi HWl
          have HCw := Lib.hid (show ∀ Y, Below wr.heap.size wr Y → Below WB wq Y ∧ ∀ c, c < 6 → Y.cell? ⟨WB, c, none⟩ = some (.int .i64 (F c : Int)) from fun Y hY => ⟨HBr.out.trans (hY.mono (Nat.le_of_lt (heap_lt HW.out))), fun c hc => by rw [cell_of_row _ _ _ _ _ _ ((hY.block _ (heap_lt HW.out)).trans HW.out)]; exact wide_get F hc⟩)
          clear HW HBr hF hlt
          obtain ⟨w8, rfl⟩ : ∃ w8, w8 = wr := ⟨_, rfl⟩
          go_wp2_with fail
          go_loopw [8, 9] (R4Rel Z F w8) (fun _ v _ => Z.length - (intOf v).toNat)
          case atStart => exact ⟨0, Nat.zero_le _, rfl, Lib.hid (World.ownsRow_nil _ _ _ _), Lib.hid (Below.refl _ _)⟩
          case round =>
            obtain ⟨k, hk, rfl, HOo, HBr⟩ := hrel
            have hZl := HRn.out
            by_cases hlt : k < n
            · have d1 : decide ((k : Int) < (n : Int)) = true := decide_eq_true (by omega)
              obtain ⟨r, hr⟩ : ∃ r, Z[k]? = some r := ⟨_, List.getElem?_eq_getElem (by omega)⟩
              have HRc := Lib.hid (fun (X : World) (hX : Below w8.heap.size w8 X) (c : Nat) (hc : c < 6) => HCe.out X (HCw.out X hX).1 k c r hr hc)
              have HSr := Lib.hid (HSm.out r (List.mem_of_getElem? hr))
              have HTk := Lib.hid (show (Z.take (k + 1)).map (lineJ F) = (Z.take k).map (lineJ F) ++ [lineJ F r] from by rw [take_six hr, List.map_append]; rfl)
              have HFw := Lib.hid (show ∀ c, c < 5 → (r c).size ≤ F c ∧ F c ≤ 10000 from fun c hc => ⟨by rw [HWi.out c hc]; exact wide_ge (List.mem_of_getElem? hr), HWl.out c⟩)
              clear hr hZl
              have a0 := HRc.out wr HBr.out 0 (by decide)
              have b0 := (HCw.out wr HBr.out).2 0 (by decide)
              have hf0 := HFw.out 0 (by decide)
              have hs0 := HSr.out.1 0 (by decide)
              rw [Nat.add_zero] at a0
              obtain ⟨n0, hn0⟩ : ∃ n, F 0 - (r 0).size = n := ⟨_, rfl⟩
              have e0 : (F 0 : Int) - ((r 0).size : Int) = (n0 : Int) := by omega
              have HP0 := Lib.hid (show preL F r 0 = r 0 ++ N.blankS n0 from by unfold preL; rw [hn0])
              have HBl := Lib.hid (fun (W : World) => (N.refBlanks_any n0 W (by omega)).mono (R' := fun e w' => e = .returned (.string (N.blankS n0)) ∧ w' = W) (by rintro e w' ⟨h1, h2⟩; exact ⟨h1, h2.symm⟩))
              have hb0 : (N.blankS n0).size ≤ 10000 := by rw [N.blankS_size]; omega
              have hnz : n0 ≤ 10000 := by omega
              go_upto_region 18 with fail
              obtain ⟨t0, ht0⟩ : ∃ t, r 0 = t := ⟨_, rfl⟩
              obtain ⟨B0, hB0⟩ : ∃ t, N.blankS n0 = t := ⟨_, rfl⟩
              rw [ht0] at a0 e0 hs0 hf0
              rw [hB0] at HBl hb0
              rw [ht0, hB0] at HP0
              have ha0 := fun W => run_string_add_sum (P := Tryz.prog) (w := W) t0 B0 (by omega)
              clear ht0 hB0 hn0
              go_quiet (first | (go_at_call 52; refine Calls.quiet_of_same (HBl.out _)))
              have HB9 := Lib.hid (show Below w8.heap.size w8 (wr.drewN nq) from below_drewNb HBr.out)
              have HO9 := Lib.hid (show (wr.drewN nq).ownsRow w8.heap.size 9 1 u8 k (strs ((Z.take k).map (lineJ F))) from owns_at HOo.out fun _ _ => rfl)
              clear a0 b0 e0 hf0 hs0 hb0 ha0 HBl HBr HOo
              obtain ⟨P0, hP0⟩ : ∃ P0, t0 ++ B0 = P0 := ⟨_, rfl⟩
              have HP0 := Lib.hid (show P0 = preL F r (1 - 1) from by rw [← hP0]; exact HP0.out.symm)
              rw [hP0]
              clear hP0
              generalize wr.drewN nq = w9 at HB9 HO9 ⊢
              go_wp2_with fail
              go_loopw [10, 11] (R5Rel F r w9) (fun _ v _ => 5 - (intOf v).toNat)
              case atStart => exact ⟨1, P0, by omega, by omega, rfl, rfl, Lib.hid HP0.out, Lib.hid (Below.refl _ _)⟩
              case round =>
                clear HP0
                obtain ⟨c, p0, hc1, hc5, rfl, rfl, HP, HBr⟩ := hrel
                have HPz := Lib.hid (show ∀ x, x = c - 1 → x < 5 → p0.size ≤ 200000 from fun x hx h5 => by rw [HP.out, ← hx]; exact pre_small (fun c hc => ⟨Nat.le_trans (HFw.out c hc).1 (HFw.out c hc).2, (HFw.out c hc).2⟩) h5)
                by_cases hlt5 : c < 5
                · have d2 : decide ((c : Int) < 5) = true := decide_eq_true (by omega)
                  have hpz2 := HPz.out (c - 1) rfl (by omega)
                  have HBw := Lib.hid (show Below w8.heap.size w8 wr from HB9.out.trans (HBr.out.mono HB9.out.size))
                  have a0 := HRc.out wr HBw.out c (by omega)
                  have b0 := (HCw.out wr HBw.out).2 c (by omega)
                  have hf0 := HFw.out c hlt5
                  have hs0 := HSr.out.1 c hlt5
                  have HPs := Lib.hid (show p0 ++ (⟨#[32]⟩ ++ N.blankS (F c - (r c).size) ++ r c) = preL F r (c + 1 - 1) from by rw [HP.out]; exact (pre_step F r hc1).symm)
                  obtain ⟨PN, hPN⟩ : ∃ PN, preL F r (c + 1 - 1) = PN := ⟨_, rfl⟩
                  rw [hPN] at HPs
                  have HPn := Lib.hid hPN
                  clear hPN HP
                  obtain ⟨n0, hn0⟩ : ∃ n, F c - (r c).size = n := ⟨_, rfl⟩
                  rw [hn0] at HPs
                  have e0 : (F c : Int) - ((r c).size : Int) = (n0 : Int) := by omega
                  have hnz : n0 ≤ 10000 := by omega
                  have HBl := Lib.hid (fun (W : World) => (N.refBlanks_any n0 W (by omega)).mono (R' := fun e w' => e = .returned (.string (N.blankS n0)) ∧ w' = W) (by rintro e w' ⟨h1, h2⟩; exact ⟨h1, h2.symm⟩))
                  have hb0 : (N.blankS n0).size ≤ 10000 := by rw [N.blankS_size]; omega
                  have harr := fun w => arr6o gz (k * 6) c w (show c < 6 by omega)
                  have harrW := fun w => arrW WB c w (show c < 6 by omega)
                  generalize N.blankS n0 = B0 at HBl hb0 HPs
                  generalize r c = t0 at a0 e0 hs0 hf0 HPs
                  generalize F c = f0 at b0 e0 hf0
                  obtain ⟨q1, hq1⟩ : ∃ q, (⟨#[32]⟩ : ByteArray) ++ B0 = q := ⟨_, rfl⟩
                  have hs1 : q1.size ≤ 10001 := by rw [← hq1, ByteArray.size_append]; show 1 + _ ≤ _; omega
                  have ha1 := fun W => run_string_add_sum (P := Tryz.prog) (w := W) (⟨#[32]⟩ : ByteArray) B0 (by show 1 + _ ≤ _; omega)
                  rw [hq1] at ha1 HPs
                  obtain ⟨q2, hq2⟩ : ∃ q, q1 ++ t0 = q := ⟨_, rfl⟩
                  have hs2 : q2.size ≤ 10100 := by rw [← hq2, ByteArray.size_append]; omega
                  have ha2 := fun W => run_string_add_sum (P := Tryz.prog) (w := W) q1 t0 (by omega)
                  rw [hq2] at ha2 HPs
                  have ha3 := fun W => run_string_add_sum (P := Tryz.prog) (w := W) p0 q2 (by omega)
                  clear hq1 hq2 hn0
                  have HKp := Lib.hid (show ∀ Y, Below wr.heap.size wr Y → Y.cell? ⟨gz, k * 6 + c, none⟩ = some (.string t0) ∧ Y.cell? ⟨WB, c, none⟩ = some (.int .i64 (f0 : Int)) from fun Y hY => ⟨by rw [hY.cell (p := ⟨gz, k * 6 + c, none⟩) (cell_lt6 a0)]; exact a0, by rw [hY.cell (p := ⟨WB, c, none⟩) (cell_lt6 b0)]; exact b0⟩)
                  clear harr harrW a0 b0
                  have HH := Lib.hid (And.intro ha1 (And.intro ha2 ha3))
                  clear ha1 ha2 ha3
                  go_upto_region 22 with fail
-- TILL 22
                  refine B.Till.region (z := 1000) (S := fun w' => Below wr.heap.size wr w') (by kernel_rfl) ((Below.refl _ _).drew) (fun hHeld => ?_)
                  refine B.Till.takeA (i := 0) (oi := ⟨some 78, .move (.tmp 10), 9, "ref.go:112", #[], none⟩) (v := .string p0) rfl (by kernel_rfl) (by kernel_rfl) (by kernel_rfl) (by kernel_rfl) (fun _ _ _ h => h) (Or.inl ⟨by rfl, fun w0 hS0 => ?_⟩) (by assumption) ?_
                  · go_simp
                  try simp only [Act.put, lt, l0, ls]
                  refine B.Till.takeA (i := 1) (oi := ⟨some 79, .move (.tmp 11), 3, "ref.go:112", #[], none⟩) (v := .int .i64 (c : Int)) rfl (by kernel_rfl) (by kernel_rfl) (by kernel_rfl) (by kernel_rfl) (fun _ _ _ h => h) (Or.inl ⟨by rfl, fun w0 hS0 => ?_⟩) (by assumption) ?_
                  · go_simp
                  try simp only [Act.put, lt, l0, ls]
                  refine B.Till.takeA (i := 2) (oi := ⟨some 80, .indexAddr 113 (.tmp 5) (.tmp 79), 0, "ref.go:112", #[⟨1, .data⟩], none⟩) (v := .pointer (some ⟨WB, c, none⟩)) rfl (by kernel_rfl) (by kernel_rfl) (by kernel_rfl) (by kernel_rfl) (fun _ _ _ h => h) (Or.inl ⟨by rfl, fun w0 hS0 => exec_arrW (.tmp 5) (.tmp 79) rfl WB c (by omega) rfl rfl⟩) (by assumption) ?_
                  try simp only [Act.put, lt, l0, ls]
                  refine B.Till.takeA (i := 3) (oi := ⟨some 81, .load 3 (.tmp 80), 3, "ref.go:112", #[⟨2, .data⟩], none⟩) (v := .int .i64 (f0 : Int)) rfl (by kernel_rfl) (by kernel_rfl) (by kernel_rfl) (by kernel_rfl) (fun _ _ _ h => h) (Or.inl ⟨by rfl, fun w0 hS0 => ?_⟩) (by assumption) ?_
                  · have b4 := (HKp.out _ hS0).2; go_simp
                  try simp only [Act.put, lt, l0, ls]
                  refine B.Till.takeA (i := 4) (oi := ⟨some 82, .move (.tmp 3), 111, "ref.go:112", #[], none⟩) (v := .slice (some ⟨gz, 0, none⟩) n cz) rfl (by kernel_rfl) (by kernel_rfl) (by kernel_rfl) (by kernel_rfl) (fun _ _ _ h => h) (Or.inl ⟨by rfl, fun w0 hS0 => ?_⟩) (by assumption) ?_
                  · go_simp
                  try simp only [Act.put, lt, l0, ls]
                  refine B.Till.takeA (i := 5) (oi := ⟨some 83, .move (.tmp 9), 3, "ref.go:112", #[], none⟩) (v := .int .i64 (k : Int)) rfl (by kernel_rfl) (by kernel_rfl) (by kernel_rfl) (by kernel_rfl) (fun _ _ _ h => h) (Or.inl ⟨by rfl, fun w0 hS0 => ?_⟩) (by assumption) ?_
                  · go_simp
                  try simp only [Act.put, lt, l0, ls]
                  refine B.Till.takeA (i := 6) (oi := ⟨some 84, .move (.tmp 11), 3, "ref.go:112", #[], none⟩) (v := .int .i64 (c : Int)) rfl (by kernel_rfl) (by kernel_rfl) (by kernel_rfl) (by kernel_rfl) (fun _ _ _ h => h) (Or.inl ⟨by rfl, fun w0 hS0 => ?_⟩) (by assumption) ?_
                  · go_simp
                  try simp only [Act.put, lt, l0, ls]
                  refine B.Till.takeA (i := 7) (oi := ⟨some 85, .indexAddr 111 (.tmp 82) (.tmp 83), 0, "ref.go:112", #[⟨4, .data⟩, ⟨5, .data⟩], none⟩) (v := .pointer (some ⟨gz, k * 6, none⟩)) rfl (by kernel_rfl) (by kernel_rfl) (by kernel_rfl) (by kernel_rfl) (fun _ _ _ h => h) (Or.inl ⟨by rfl, fun w0 hS0 => ?_⟩) (by assumption) ?_
                  · have hkk : ¬ ((n : Int) ≤ (k : Int)) := by omega
                    go_simp
                  try simp only [Act.put, lt, l0, ls]
                  refine B.Till.takeA (i := 8) (oi := ⟨some 86, .indexAddr 110 (.tmp 85) (.tmp 84), 0, "ref.go:112", #[⟨7, .data⟩, ⟨6, .data⟩], none⟩) (v := .pointer (some ⟨gz, k * 6 + c, none⟩)) rfl (by kernel_rfl) (by kernel_rfl) (by kernel_rfl) (by kernel_rfl) (fun _ _ _ h => h) (Or.inl ⟨by rfl, fun w0 hS0 => exec_arr6o (.tmp 85) (.tmp 84) rfl gz (k * 6) c (by omega) rfl rfl⟩) (by assumption) ?_
                  try simp only [Act.put, lt, l0, ls]
                  refine B.Till.takeA (i := 9) (oi := ⟨some 87, .load 9 (.tmp 86), 9, "ref.go:112", #[⟨8, .data⟩], none⟩) (v := .string t0) rfl (by kernel_rfl) (by kernel_rfl) (by kernel_rfl) (by kernel_rfl) (fun _ _ _ h => h) (Or.inl ⟨by rfl, fun w0 hS0 => ?_⟩) (by assumption) ?_
                  · have b4 := (HKp.out _ hS0).1; go_simp
                  try simp only [Act.put, lt, l0, ls]
                  refine B.Till.takeA (i := 10) (oi := ⟨some 88, .call ⟨.builtin .len, #[.tmp 87], #[9]⟩, 3, "ref.go:112", #[⟨9, .data⟩], none⟩) (v := .int .i64 (t0.size : Int)) rfl (by kernel_rfl) (by kernel_rfl) (by kernel_rfl) (by kernel_rfl) (fun _ _ _ h => h) (Or.inl ⟨by rfl, fun w0 hS0 => ?_⟩) (by assumption) ?_
                  · go_simp
                  try simp only [Act.put, lt, l0, ls]
                  refine B.Till.takeA (i := 11) (oi := ⟨some 89, .binOp .sub 3 (.tmp 81) (.tmp 88) 3, 3, "ref.go:112", #[⟨3, .data⟩, ⟨10, .data⟩], none⟩) (v := .int .i64 (n0 : Int)) rfl (by kernel_rfl) (by kernel_rfl) (by kernel_rfl) (by kernel_rfl) (fun _ _ _ h => h) (Or.inl ⟨by rfl, fun w0 hS0 => by first | (go_simp; done) | (go_simp; exact IntWalk.i64_in _ (by omega))⟩) (by assumption) ?_
                  try simp only [Act.put, lt, l0, ls]
                  refine B.Till.takeA (i := 14) (oi := ⟨some 92, .move (.tmp 3), 111, "ref.go:112", #[], none⟩) (v := .slice (some ⟨gz, 0, none⟩) n cz) rfl (by kernel_rfl) (by kernel_rfl) (by kernel_rfl) (by kernel_rfl) (fun _ _ _ h => h) (Or.inl ⟨by rfl, fun w0 hS0 => ?_⟩) (by assumption) ?_
                  · go_simp
                  try simp only [Act.put, lt, l0, ls]
                  refine B.Till.takeA (i := 15) (oi := ⟨some 93, .move (.tmp 9), 3, "ref.go:112", #[], none⟩) (v := .int .i64 (k : Int)) rfl (by kernel_rfl) (by kernel_rfl) (by kernel_rfl) (by kernel_rfl) (fun _ _ _ h => h) (Or.inl ⟨by rfl, fun w0 hS0 => ?_⟩) (by assumption) ?_
                  · go_simp
                  try simp only [Act.put, lt, l0, ls]
                  refine B.Till.takeA (i := 16) (oi := ⟨some 94, .move (.tmp 11), 3, "ref.go:112", #[], none⟩) (v := .int .i64 (c : Int)) rfl (by kernel_rfl) (by kernel_rfl) (by kernel_rfl) (by kernel_rfl) (fun _ _ _ h => h) (Or.inl ⟨by rfl, fun w0 hS0 => ?_⟩) (by assumption) ?_
                  · go_simp
                  try simp only [Act.put, lt, l0, ls]
                  refine B.Till.takeA (i := 17) (oi := ⟨some 95, .indexAddr 111 (.tmp 92) (.tmp 93), 0, "ref.go:112", #[⟨14, .data⟩, ⟨15, .data⟩], none⟩) (v := .pointer (some ⟨gz, k * 6, none⟩)) rfl (by kernel_rfl) (by kernel_rfl) (by kernel_rfl) (by kernel_rfl) (fun _ _ _ h => h) (Or.inl ⟨by rfl, fun w0 hS0 => ?_⟩) (by assumption) ?_
                  · have hkk : ¬ ((n : Int) ≤ (k : Int)) := by omega
                    go_simp
                  try simp only [Act.put, lt, l0, ls]
                  refine B.Till.takeA (i := 18) (oi := ⟨some 96, .indexAddr 110 (.tmp 95) (.tmp 94), 0, "ref.go:112", #[⟨17, .data⟩, ⟨16, .data⟩], none⟩) (v := .pointer (some ⟨gz, k * 6 + c, none⟩)) rfl (by kernel_rfl) (by kernel_rfl) (by kernel_rfl) (by kernel_rfl) (fun _ _ _ h => h) (Or.inl ⟨by rfl, fun w0 hS0 => exec_arr6o (.tmp 95) (.tmp 94) rfl gz (k * 6) c (by omega) rfl rfl⟩) (by assumption) ?_
                  try simp only [Act.put, lt, l0, ls]
                  refine B.Till.takeA (i := 19) (oi := ⟨some 97, .load 9 (.tmp 96), 9, "ref.go:112", #[⟨18, .data⟩], none⟩) (v := .string t0) rfl (by kernel_rfl) (by kernel_rfl) (by kernel_rfl) (by kernel_rfl) (fun _ _ _ h => h) (Or.inl ⟨by rfl, fun w0 hS0 => ?_⟩) (by assumption) ?_
                  · have b4 := (HKp.out _ hS0).1; go_simp
                  try simp only [Act.put, lt, l0, ls]
                  refine B.Till.next (i := 12) (o := ⟨some 90, .call ⟨.value (.func 52), #[.tmp 89], #[3]⟩, 9, "ref.go:112", #[⟨11, .data⟩], none⟩) (by kernel_rfl) rfl (fun K hK => ?_)
                  go_simp
                  refine (HBl.out _).mono ?_
                  rintro e w4 ⟨rfl, hw4⟩
                  subst hw4
                  go_wp2_with fail
                  refine hK.out _ _ (fun _ => hHeld) ?_
                  clear hK K
                  try simp only [Act.put, lt, l0, ls]
                  refine B.Till.takeA (i := 13) (oi := ⟨some 91, .binOp .add 9 (.const (.string { data := #[32] })) (.tmp 90) 9, 9, "ref.go:112", #[⟨12, .data⟩], none⟩) (v := .string q1) rfl (by kernel_rfl) (by kernel_rfl) (by kernel_rfl) (by kernel_rfl) (fun _ _ _ h => h) (Or.inl ⟨by rfl, fun w0 hS0 => ?_⟩) (by assumption) ?_
                  · have ha := HH.out.1 w0; go_simp
                  try simp only [Act.put, lt, l0, ls]
                  refine B.Till.takeA (i := 20) (oi := ⟨some 98, .binOp .add 9 (.tmp 91) (.tmp 97) 9, 9, "ref.go:112", #[⟨13, .data⟩, ⟨19, .data⟩], none⟩) (v := .string q2) rfl (by kernel_rfl) (by kernel_rfl) (by kernel_rfl) (by kernel_rfl) (fun _ _ _ h => h) (Or.inl ⟨by rfl, fun w0 hS0 => ?_⟩) (by assumption) ?_
                  · have ha := HH.out.2.1 w0; go_simp
                  try simp only [Act.put, lt, l0, ls]
                  refine B.Till.takeA (i := 21) (oi := ⟨some 99, .binOp .add 9 (.tmp 78) (.tmp 98) 9, 9, "ref.go:112", #[⟨0, .data⟩, ⟨20, .data⟩], none⟩) (v := .string (p0 ++ q2)) rfl (by kernel_rfl) (by kernel_rfl) (by kernel_rfl) (by kernel_rfl) (fun _ _ _ h => h) (Or.inl ⟨by rfl, fun w0 hS0 => ?_⟩) (by assumption) ?_
                  · have ha := HH.out.2.2 w0; go_simp
                  try simp only [Act.put, lt, l0, ls]
                  refine B.Till.takeA (i := 22) (oi := ⟨some 10, .assign (.tmp 99), 9, "ref.go:112", #[⟨21, .data⟩, ⟨12, .chain⟩, ⟨0, .phase⟩, ⟨1, .phase⟩, ⟨2, .phase⟩, ⟨3, .phase⟩, ⟨4, .phase⟩, ⟨5, .phase⟩, ⟨6, .phase⟩, ⟨7, .phase⟩, ⟨8, .phase⟩, ⟨9, .phase⟩, ⟨10, .phase⟩, ⟨11, .phase⟩, ⟨12, .phase⟩, ⟨13, .phase⟩, ⟨14, .phase⟩, ⟨15, .phase⟩, ⟨16, .phase⟩, ⟨17, .phase⟩, ⟨18, .phase⟩, ⟨19, .phase⟩, ⟨20, .phase⟩, ⟨21, .phase⟩], none⟩) (v := .string (p0 ++ q2)) rfl (by kernel_rfl) (by kernel_rfl) (by kernel_rfl) (by kernel_rfl) (fun _ _ _ h => h) (Or.inl ⟨by rfl, fun w0 hS0 => ?_⟩) (by assumption) ?_
                  · go_simp
                  try simp only [Act.put, lt, l0, ls]
                  refine B.Till.done (by kernel_rfl) ?_
-- TILL 22 END
                  have HBd := Lib.hid (show Below w9.heap.size w9 wr.drew from HBr.out.drew)
                  go_wp2_with fail
                  go_roundw
                  case rel => exact ⟨c + 1, p0 ++ q2, by omega, by omega, by simp, rfl, Lib.hid (by rw [HPn.out]; exact HPs.out), HBd⟩
                  case measure => simp [intOf]; omega
                · obtain rfl : c = 5 := by omega
                  have d2 : decide (((5 : Nat) : Int) < 5) = false := by decide
                  have HBw := Lib.hid (show Below w8.heap.size w8 wr from HB9.out.trans (HBr.out.mono HB9.out.size))
                  have a0 := HRc.out wr HBw.out 5 (by decide)
                  have hs0 := HSr.out.2
                  have hpz := HPz.out 4 rfl (by decide)
                  have HLn := Lib.hid (show lineJ F r = p0 ++ ⟨#[32]⟩ ++ r 5 from by rw [line_pre, HP.out])
                  clear HP HPz
                  have HOx := Lib.hid (owns_to HO9.out HBr.out)
                  clear HB9 HBr HO9
                  obtain ⟨t5, ht5⟩ : ∃ t, r 5 = t := ⟨_, rfl⟩
                  rw [ht5] at a0 hs0 HLn
                  clear ht5
                  obtain ⟨q1, hq1⟩ : ∃ q, p0 ++ (⟨#[32]⟩ : ByteArray) = q := ⟨_, rfl⟩
                  have hs1 : q1.size ≤ 200001 := by rw [← hq1, ByteArray.size_append]; show _ + 1 ≤ _; omega
                  have ha1 := fun W => run_string_add_sum (P := Tryz.prog) (w := W) p0 (⟨#[32]⟩ : ByteArray) (by show _ + 1 ≤ _; omega)
                  rw [hq1] at ha1 HLn
                  have ha2 := fun W => run_string_add_sum (P := Tryz.prog) (w := W) q1 t5 (by omega)
                  obtain ⟨ln, hln⟩ : ∃ q, q1 ++ t5 = q := ⟨_, rfl⟩
                  rw [hln] at ha2 HLn
                  rw [HLn.out] at HTk
                  clear hq1 hln HLn
                  obtain ⟨ao, ac, hv8⟩ := owns_form HOx.out
                  subst hv8
                  have HAa := Lib.hid (show Below wr.heap.size wr (wr.alloc (.cells #[.string ln] 9)) from (Below.refl _ _).alloc (Nat.le_refl _) _)
                  go_wp2_with (at_builtin; go_loud (refine wpList_append_lies _ rfl (.tmp 100) (.tmp 109) 40 rfl w8.heap.size 9 i0 (.string ⟨#[]⟩) 1 16 Tryz.underlying40 hi0 hz0 hz1 hz2 rfl (by decide) (.slice ao k ac) k (strs ((Z.take k).map (lineJ F))) rfl (by with_reducible exact owns_to HOx.out HAa.out) ⟨wr.heap.size, 0, none⟩ 1 1 [.string ln] rfl rfl (World.news_of_block (heap_alloc_new _ _)) (by intro u hu; simp at hu; subst hu; rfl) (by decide) (by unfold maxLen; omega) (by omega) (Nat.le_trans HBw.out.size HAa.out.size) _ rfl ?_; intro g1 cap1 w11 hown hgrow hat hlt1))
                  have HOn := Lib.hid (show w11.ownsRow w8.heap.size 9 1 (.slice (some ⟨g1, 0, none⟩) (k + 1) cap1) (k + 1) (strs ((Z.take (k + 1)).map (lineJ F))) from by rw [HTk.out, strs_app]; exact hown)
                  have HBn := Lib.hid ((HBw.out.trans (HAa.out.mono HBw.out.size)).grown hgrow (Nat.le_trans HBw.out.size HAa.out.size) (fun j hj => (HOx.out.lt j hj).1))
                  go_roundw
                  case rel => exact ⟨k + 1, by have := HRn.out; omega, by simp, HOn, HBn⟩
                  case measure => simp [intOf]; have := HRn.out; omega
            · obtain rfl : n = k := by omega
              have d1 : decide ((n : Int) < (n : Int)) = false := decide_eq_false (by omega)
              have HAe := Lib.hid (show Z.map (lineJ F) = A from by rw [HTb.out]; exact List.map_congr_left fun r _ => line_congr HWi.out r)
              have HAl := Lib.hid (show A.length = n from by rw [HTb.out, List.length_map, HRn.out])
              rw [← HRn.out, List.take_length, HRn.out, HAe.out] at HOo
              have HWe := Lib.hid (HCw.out _ HBr.out).1
              have HLo := Lib.hid (owns_low HOo.out (show w.heap.size ≤ w8.heap.size from (HBw.out _ (HCw.out _ (Below.refl _ _)).1).size))
              clear HOo HBr
              go_wp2_with fail
              go_ret
              exact ⟨_, rfl, by rw [HA.out, HAl.out]; exact HLo.out, HBw.out _ HWe.out⟩
end Go.Proofs.YtknfhphhcnbndaaGreatDoor.J
