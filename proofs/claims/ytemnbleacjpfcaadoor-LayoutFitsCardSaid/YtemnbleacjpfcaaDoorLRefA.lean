/-
  What the reference's widest and columns return. Conditions: at most 1000 names of at most 4000 bytes, in memory.
-/
import Derived.Test.YtemnbleacjpfcaaDoorLTake
import Derived.Test.YtemnbleacjpfcaaDoorLCols
import Derived.Test.YtemnbleacjpfcaaDoorTill
import Derived.Test.YtemnbleacjpfcaaDoorWTexts
import Derived.Deep.AppendLies
import Derived.Deep.CutRange
set_option linter.unusedVariables false
namespace Go.Proofs.YtemnbleacjpfcaaDoor.L
open Go.Proofs.YtemnbleacjpfcaaDoor.W hiding ret_int below_two
open Go.Proofs.YtemnbleacjpfcaaDoor.N hiding ret_int
open Go.Proofs.YtemnbleacjpfcaaDoor.B
open Go.RowKit

theorem atL_get {l : List ByteArray} {i : Nat} (h : i < l.length) : l[i]? = some (atL l i) := by
  unfold atL
  rw [List.getD_eq_getElem?_getD, List.getElem?_eq_getElem h]
  rfl
/-- A row of texts that a call has made, as names. -/
theorem inL_of {W : World} {base : Nat} {v : Value} {x : List ByteArray} (h : W.ownsRow base 9 1 v x.length (strs x)) : ∃ a cap, v = .slice a x.length cap ∧ InL W a x := by
  rcases h.2 with ⟨rfl, hn⟩ | ⟨g, cap, cur, rfl, hb, hg, hnc, hcm, hcs, ht⟩
  · exact ⟨none, 0, by rw [hn], .inl hn⟩
  · refine ⟨_, cap, rfl, .inr ⟨g, 0, rfl, fun i hi => ?_⟩⟩
    have hx : (strs x)[i]? = some (.string (atL x i)) := by
      unfold strs
      rw [List.getElem?_map, atL_get hi]
      rfl
    rw [Nat.zero_add]
    exact owns_cell h hx
def WidRel (l : List ByteArray) (w : World) (m i : Value) (wr : World) : Prop :=
  ∃ (k : Nat) (M : Int), k ≤ l.length ∧ i = .int .i64 (k : Int) ∧ m = .int .i64 M ∧ Hid (M = wideL (l.take k)) ∧ Hid (Below w.heap.size w wr)
theorem wide_take {l : List ByteArray} {k : Nat} (h : k < l.length) : wideL (l.take (k + 1)) = max (wideL (l.take k)) (wd (atL l k) 0) := by
  rw [List.take_add_one, atL_get h]
  exact wideL_snoc _ _
set_option maxHeartbeats 2000000 in
theorem widest_any (l : List ByteArray) (a : Option Addr) (cap : Nat) (w : World) (H : InL w a l) (hl : l.length ≤ 1000) (hz : ∀ x ∈ l, x.size ≤ 60000) :
    Calls Tryd.prog 18 #[.slice a l.length cap] w fun e w' => e = .returned (.int .i64 (wideL l)) ∧ Below w.heap.size w w' := by
  have HX := Lib.hid H
  have HZ := Lib.hid hz
  clear H hz
  go_enter Tryd.func18, Tryd.ntmps18
  go_wp2
  go_loopw [3, 4] (WidRel l w) (fun _ v _ => l.length - (intOf v).toNat)
  case atStart => exact ⟨0, 0, Nat.zero_le _, rfl, rfl, Lib.hid rfl, Lib.hid (Below.refl _ _)⟩
  case round =>
    obtain ⟨k, M, hk, rfl, rfl, HM, HB⟩ := hrel
    by_cases hi : k < l.length
    · have e1 : decide ((k : Int) < (l.length : Int)) = true := decide_eq_true (by omega)
      rcases HX.out.keep HB.out with q | ⟨b, off, rfl, hcs⟩
      · omega
      have hcell := hcs k hi
      have hsz := HZ.out _ (atL_mem hi)
      have HS := Lib.hid (wide_take hi)
      clear hcs
      generalize atL l k = S at *
      go_wp2_with fail
      refine (refOf_any S _ (by omega)).mono ?_
      rintro e w2 ⟨rfl, hb2⟩
      have HB2 := Lib.hid (below_two HB.out hb2)
      clear hb2 hcell
      go_wp2_with fail
      all_goals
        go_roundw
        case rel => exact ⟨k + 1, _, by omega, by go_num, rfl, Lib.hid (by rw [HS.out, ← HM.out]; first | exact max_if _ _ | omega), HB2⟩
        case measure => simp [intOf]; omega
    · have e1 : decide ((k : Int) < (l.length : Int)) = false := decide_eq_false (by omega)
      have hkn : k = l.length := by omega
      subst hkn
      have HE := Lib.hid (show M = wideL l from by have := HM.out; rwa [List.take_length] at this)
      go_wp2_with fail
      go_ret
      exact ⟨ret_int HE.out, HB.out⟩

/-! ### columns -/
def CntRel (rows : Nat) (v : Value) : Prop := ∃ r : Nat, v = .int .i64 (r : Int) ∧ r ≤ rows
def colsK (l : List ByteArray) (cols : Nat) (across : Bool) (k : Nat) : List (List ByteArray) := (List.range cols).map (colF l (colOf l.length cols across) k)
theorem colsK_zero (l : List ByteArray) (cols : Nat) (across : Bool) : colsK l cols across 0 = List.replicate cols [] := by
  unfold colsK
  apply List.ext_getElem?
  intro c
  rw [List.getElem?_map, List.getElem?_replicate]
  by_cases h : c < cols
  · rw [List.getElem?_range h, if_pos h]; rfl
  · rw [List.getElem?_eq_none (by rw [List.length_range]; omega), if_neg h]; rfl
theorem colsK_at {l : List ByteArray} {cols : Nat} {across : Bool} {k c : Nat} (h : c < cols) : (colsK l cols across k)[c]? = some (colF l (colOf l.length cols across) k c) := by
  unfold colsK
  rw [List.getElem?_map, List.getElem?_range h]
  rfl
theorem colsK_len (l : List ByteArray) (cols : Nat) (across : Bool) (k : Nat) : (colsK l cols across k).length = cols := by unfold colsK; rw [List.length_map, List.length_range]
theorem colsK_step {l : List ByteArray} {cols : Nat} {across : Bool} {k : Nat} (h : colOf l.length cols across k < cols) : (colsK l cols across k).set (colOf l.length cols across k) (colF l (colOf l.length cols across) k (colOf l.length cols across k) ++ [atL l k]) = colsK l cols across (k + 1) := by
  apply List.ext_getElem?
  intro c
  by_cases hc : c < cols
  · rw [colsK_at hc]
    by_cases q : colOf l.length cols across k = c
    · subst q
      rw [List.getElem?_set_self (by rw [colsK_len]; exact hc), colF_here _ _ _ _ rfl]
    · rw [List.getElem?_set_ne q, colsK_at hc, colF_else _ _ _ _ q]
  · rw [List.getElem?_eq_none (by rw [List.length_set, colsK_len]; omega), List.getElem?_eq_none (by rw [colsK_len]; omega)]
theorem slices_made (n : Nat) : (madeCells (Value.slice none 0 0).cells (n * 1)).toList = List.replicate n (.slice none 0 0) := by
  have : (Value.slice none 0 0).cells = #[.slice none 0 0] := rfl
  rw [this, toList_madeCells_one, Nat.mul_one]
theorem infoStrs : (Tryd.prog.info? 22).map (fun i => (i.zero, i.size, i.bytes)) = some (some (.slice none 0 0), 1, 24) := by kernel_rfl
theorem infoText : (Tryd.prog.info? 9).map (fun i => (i.zero, i.size, i.bytes)) = some (some (.string ⟨#[]⟩), 1, 16) := by kernel_rfl
theorem owns_lower {w : World} {b b' : Nat} {e : TypeId} {size n : Nat} {v : Value} {xs : List Value} (h : w.ownsRow b e size v n xs) (hb : b' ≤ b) : w.ownsRow b' e size v n xs := by
  refine ⟨h.1, ?_⟩
  rcases h.2 with hn | ⟨g, cap, cur, hv, hg, rest⟩
  · exact .inl hn
  · exact .inr ⟨g, cap, cur, hv, Nat.le_trans hb hg, rest⟩
theorem owns_grown {w w' : World} {base : Nat} {e : TypeId} {g n cap : Nat} {xs : List Value} (h : w.ownsRow base e 1 (.slice (some ⟨g, 0, none⟩) n cap) n xs) {row : Option Nat} (hg : w.grownBy w' row) (hne : some g ≠ row) : w'.ownsRow base e 1 (.slice (some ⟨g, 0, none⟩) n cap) n xs := h.kept hg (.inr hne)
theorem own_lt {w : World} {base : Nat} {e : TypeId} {g n cap : Nat} {xs : List Value} (h : w.ownsRow base e 1 (.slice (some ⟨g, 0, none⟩) n cap) n xs) : g < w.heap.size := (h.lt g rfl).2
theorem made_none {base : Nat} (w : World) (hb : base ≤ w.heap.size) {W : World} (hW : W.heap[w.heap.size]? = some (.cells #[] 9 (0, 0)) := by exact heap_alloc_new _ _) : W.ownsRow base 9 1 (.slice (some ⟨w.heap.size, 0, none⟩) 0 0) 0 [] :=
  ⟨rfl, .inr ⟨w.heap.size, 0, #[], rfl, hb, hW, Nat.le_refl _, Nat.zero_le _, rfl, rfl⟩⟩
theorem made_one (w : World) (S : ByteArray) {W : World} (hW : W.heap[w.heap.size]? = some (.cells #[.string S] 9 (0, 0)) := by exact heap_alloc_new _ _) : W.ownsRow 0 9 1 (.slice (some ⟨w.heap.size, 0, none⟩) 1 1) 1 (strs [S]) :=
  ⟨rfl, .inr ⟨w.heap.size, 1, #[.string S], rfl, Nat.zero_le _, hW, Nat.le_refl _, by decide, rfl, rfl⟩⟩
theorem strs_one (l : List ByteArray) : ∀ u ∈ strs l, u.oneCell' = true := by
  intro u hu
  unfold strs at hu
  obtain ⟨x, _, rfl⟩ := List.mem_map.1 hu
  rfl
theorem strs_two (a b : List ByteArray) : strs (a ++ b) = strs a ++ strs b := by unfold strs; rw [List.map_append]
def ColRel (l : List ByteArray) (n cols : Nat) (across : Bool) (g : Nat) (w : World) (v : Value) (wr : World) : Prop :=
  ∃ k : Nat, k ≤ n ∧ v = .int .i64 (k : Int) ∧ Hid (ColsAt wr w.heap.size 22 9 g (colsK l cols across k)) ∧ Hid (Below w.heap.size w wr)
set_option maxRecDepth 100000 in
set_option maxHeartbeats 16000000 in
theorem columns_any (l : List ByteArray) (a : Option Addr) (cap cols : Nat) (across : Bool) (w : World) (H : InL w a l) (hl : l.length ≤ 1000) (hz : ∀ x ∈ l, x.size ≤ 60000) (hc : 1 ≤ cols) (hm : cols ≤ l.length) :
    Calls Tryd.prog 27 #[.slice a l.length cap, .int .i64 (cols : Int), .bool across] w fun e w' => ∃ g, e = .returned (ownS g cols) ∧ ColsAt w' w.heap.size 22 9 g (colsL l cols across) ∧ Below w.heap.size w w' := by
  obtain ⟨is, his, hs0, hs1, hs2⟩ := info_parts infoStrs
  obtain ⟨it, hit, ht0, ht1, ht2⟩ := info_parts infoText
  have HX := Lib.hid H
  have HZ := Lib.hid hz
  clear H hz
  obtain ⟨n, hn⟩ : ∃ n, l.length = n := ⟨_, rfl⟩
  have HN := Lib.hid hn
  rw [hn] at hl hm ⊢
  clear hn
  have hr1 := rowsN_pos (n := n) (by omega) (show 0 < cols by omega)
  have hr2 := rowsN_le (n := n) (cols := cols) hc
  have HI := Lib.hid (fun r => rowsN_iff (n := n) (cols := cols) (r := r) (by omega))
  obtain ⟨rows, hrows⟩ : ∃ r, rowsN n cols = r := ⟨_, rfl⟩
  have HR := Lib.hid hrows
  rw [hrows] at hr1 hr2 HI
  clear hrows
  go_enter Tryd.func27, Tryd.ntmps27
  go_wp2
  go_loop [7] (CntRel rows) (fun v => n - (intOf v).toNat)
  case atStart => exact ⟨0, rfl, Nat.zero_le _⟩
  case round =>
    obtain ⟨r, rfl, hr⟩ := hrel
    have hi := HI.out r
    obtain ⟨P, hP⟩ : ∃ P, r * cols = P := ⟨_, rfl⟩
    have hPb : P ≤ 1000000 := by
      rw [← hP]
      exact Nat.le_trans (Nat.mul_le_mul (Nat.le_trans hr hr2) hm) (Nat.le_trans (Nat.mul_le_mul hl hl) (by decide))
    rw [hP] at hi
    have hPi : (r : Int) * (cols : Int) = (P : Int) := by rw [← hP, Int.natCast_mul]
    clear hP
    by_cases hlt : P < n
    · have e1 : decide ((P : Int) < (n : Int)) = true := decide_eq_true (by omega)
      go_wp2_with fail
      go_round
      case rel => exact ⟨r + 1, by go_num, by omega⟩
      case measure => simp [intOf]; omega
    · have e1 : decide ((P : Int) < (n : Int)) = false := decide_eq_false (by omega)
      have hre : r = rows := by omega
      subst hre
      clear hi hr HI
      go_upto_region 5 with (at_make; go_loud (refine wpList_make_full _ rfl (.tmp 19) (.tmp 19) 30 rfl w.heap.size 22 is (.slice none 0 0) 1 Tryd.underlying30 his hs0 hs1 .i64 .i64 _ _ cols rfl rfl rfl rfl (by rw [hs2]; omega) (by unfold maxLen; omega) (Nat.le_refl _) ?_; intro w1 hown hgrow))
      rw [slices_made] at hown
      have HC1 := Lib.hid (show ColsAt w1 w.heap.size 22 9 w.heap.size (colsK l cols across 0) from by rw [colsK_zero]; exact ColsAt.made hown)
      have HB1 := Lib.hid ((Below.refl w.heap.size w).grown hgrow (Nat.le_refl _) (fun j hj => by cases hj))
      clear hown hgrow
      go_wp2_with fail
      go_loopw [9] (ColRel l n cols across w.heap.size w) (fun v _ => n - (intOf v).toNat)
      case atStart => exact ⟨0, Nat.zero_le _, rfl, HC1, HB1⟩
      case round =>
        clear HC1 HB1
        obtain ⟨k, hk, rfl, HC, HB⟩ := hrel
        by_cases hi : k < n
        · have e1 : decide ((k : Int) < (n : Int)) = true := decide_eq_true (by omega)
          have hkl : k < l.length := by rw [HN.out]; exact hi
          obtain ⟨d1, d2, d3, d4, d5⟩ := quo_at k r hr1
          obtain ⟨f1, f2, f3, f4, f5⟩ := quo_at k cols (by omega)
          have HCo := Lib.hid (show colOf n cols across k = if across = true then k % cols else k / r from by rw [← HR.out]; rfl)
          have hlt : colOf n cols across k < cols := colOf_lt hi (by omega)
          have HSt := Lib.hid (colsK_step (l := l) (cols := cols) (across := across) (k := k) (by rw [HN.out]; exact hlt))
          have HAt := Lib.hid (colsK_at (l := l) (cols := cols) (across := across) (k := k) (c := colOf n cols across k) hlt)
          rw [HN.out] at HSt HAt
          have hxl := colF_len l (colOf n cols across) k (colOf n cols across k)
          generalize colF l (colOf n cols across) k (colOf n cols across k) = x at *
          generalize colOf n cols across k = c at *
          generalize k / r = qr at *
          generalize k % cols = qc at *
          rcases HX.out.keep HB.out with q | ⟨b, off, rfl, hcs⟩
          · omega
          have hcell := hcs k hkl
          clear hcs
          obtain ⟨ao, capx, g0, g1, g2⟩ := HC.out.get HAt.out
          have HOx := Lib.hid g2
          have HGet := Lib.hid (show ∀ W, Below wr.heap.size wr W → W.cell? ⟨w.heap.size, c, none⟩ = some (.slice ao x.length capx) from fun W hb => by rw [hb.cell (p := ⟨w.heap.size, c, none⟩) (cell_lt g0)]; exact g0)
          have HTxt := Lib.hid (show ∀ W, Below wr.heap.size wr W → W.cell? ⟨b, off + k, none⟩ = some (.string (atL l k)) from fun W hb => by rw [hb.cell (p := ⟨b, off + k, none⟩) (cell_lt hcell)]; exact hcell)
          clear g0 g1 g2 hcell
          generalize atL l k = S at *
          cases across
          case' false =>
            obtain rfl : c = qr := HCo.out
            go_upto_region 11 with fail
          case' true =>
            obtain rfl : c = qc := HCo.out
            go_upto_region 11 with fail
          all_goals
            refine Till.region (z := 15) (S := fun w' => Below wr.heap.size wr w') (by kernel_rfl) ((Below.refl _ _).drew) (fun hHeld => ?_)
            refine Till.take (i := 0) (oi := { dst := some 34, op := Op.move (Operand.tmp 8), type := 30, pos := "ref.go:21", after := #[], guard := none }) (v := .slice (some ⟨w.heap.size, 0, none⟩) cols cols) rfl (by kernel_rfl) (by kernel_rfl) (by kernel_rfl) (by kernel_rfl) (fun _ _ _ h => h) (Or.inl ⟨by rfl, fun w0 hS0 => ?_⟩) (by assumption) ?_
            · go_simp
            try simp only [Act.put, List.setIfInBounds_toArray, List.set_cons_zero, List.set_cons_succ]
            refine Till.take (i := 1) (oi := { dst := some 35, op := Op.move (Operand.tmp 10), type := 3, pos := "ref.go:21", after := #[], guard := none }) (v := .int .i64 (c : Int)) rfl (by kernel_rfl) (by kernel_rfl) (by kernel_rfl) (by kernel_rfl) (fun _ _ _ h => h) (Or.inl ⟨by rfl, fun w0 hS0 => ?_⟩) (by assumption) ?_
            · go_simp
            try simp only [Act.put, List.setIfInBounds_toArray, List.set_cons_zero, List.set_cons_succ]
            refine Till.take (i := 3) (oi := { dst := some 37, op := Op.move (Operand.tmp 8), type := 30, pos := "ref.go:21", after := #[], guard := none }) (v := .slice (some ⟨w.heap.size, 0, none⟩) cols cols) rfl (by kernel_rfl) (by kernel_rfl) (by kernel_rfl) (by kernel_rfl) (fun _ _ _ h => h) (Or.inl ⟨by rfl, fun w0 hS0 => ?_⟩) (by assumption) ?_
            · go_simp
            try simp only [Act.put, List.setIfInBounds_toArray, List.set_cons_zero, List.set_cons_succ]
            refine Till.take (i := 4) (oi := { dst := some 38, op := Op.move (Operand.tmp 10), type := 3, pos := "ref.go:21", after := #[], guard := none }) (v := .int .i64 (c : Int)) rfl (by kernel_rfl) (by kernel_rfl) (by kernel_rfl) (by kernel_rfl) (fun _ _ _ h => h) (Or.inl ⟨by rfl, fun w0 hS0 => ?_⟩) (by assumption) ?_
            · go_simp
            try simp only [Act.put, List.setIfInBounds_toArray, List.set_cons_zero, List.set_cons_succ]
            refine Till.take (i := 5) (oi := { dst := some 39, op := Op.indexAddr 30 (Operand.tmp 37) (Operand.tmp 38), type := 0, pos := "ref.go:21", after := #[{ on := 3, ground := Ground.data }, { on := 4, ground := Ground.data }], guard := none }) (v := .pointer (some ⟨w.heap.size, c, none⟩)) rfl (by kernel_rfl) (by kernel_rfl) (by kernel_rfl) (by kernel_rfl) (fun _ _ _ h => h) (Or.inl ⟨by rfl, fun w0 hS0 => ?_⟩) (by assumption) ?_
            · go_simp
            try simp only [Act.put, List.setIfInBounds_toArray, List.set_cons_zero, List.set_cons_succ]
            refine Till.take (i := 6) (oi := { dst := some 40, op := Op.load 22 (Operand.tmp 39), type := 22, pos := "ref.go:21", after := #[{ on := 5, ground := Ground.data }], guard := none }) (v := .slice ao x.length capx) rfl (by kernel_rfl) (by kernel_rfl) (by kernel_rfl) (by kernel_rfl) (fun _ _ _ h => h) (Or.inl ⟨by rfl, fun w0 hS0 => ?_⟩) (by assumption) ?_
            · have c0 := HGet.out _ hS0; go_simp
            try simp only [Act.put, List.setIfInBounds_toArray, List.set_cons_zero, List.set_cons_succ]
            refine Till.take (i := 8) (oi := { dst := some 42, op := Op.move (Operand.tmp 0), type := 22, pos := "ref.go:21", after := #[], guard := none }) (v := .slice (some ⟨b, off, none⟩) n cap) rfl (by kernel_rfl) (by kernel_rfl) (by kernel_rfl) (by kernel_rfl) (fun _ _ _ h => h) (Or.inl ⟨by rfl, fun w0 hS0 => ?_⟩) (by assumption) ?_
            · go_simp
            try simp only [Act.put, List.setIfInBounds_toArray, List.set_cons_zero, List.set_cons_succ]
            refine Till.take (i := 9) (oi := { dst := some 43, op := Op.move (Operand.tmp 9), type := 3, pos := "ref.go:21", after := #[], guard := none }) (v := .int .i64 (k : Int)) rfl (by kernel_rfl) (by kernel_rfl) (by kernel_rfl) (by kernel_rfl) (fun _ _ _ h => h) (Or.inl ⟨by rfl, fun w0 hS0 => ?_⟩) (by assumption) ?_
            · go_simp
            try simp only [Act.put, List.setIfInBounds_toArray, List.set_cons_zero, List.set_cons_succ]
            refine Till.take (i := 10) (oi := { dst := some 44, op := Op.indexAddr 22 (Operand.tmp 42) (Operand.tmp 43), type := 0, pos := "ref.go:21", after := #[{ on := 8, ground := Ground.data }, { on := 9, ground := Ground.data }], guard := none }) (v := .pointer (some ⟨b, off + k, none⟩)) rfl (by kernel_rfl) (by kernel_rfl) (by kernel_rfl) (by kernel_rfl) (fun _ _ _ h => h) (Or.inl ⟨by rfl, fun w0 hS0 => ?_⟩) (by assumption) ?_
            · go_simp
            try simp only [Act.put, List.setIfInBounds_toArray, List.set_cons_zero, List.set_cons_succ]
            refine Till.take (i := 11) (oi := { dst := some 45, op := Op.load 9 (Operand.tmp 44), type := 9, pos := "ref.go:21", after := #[{ on := 10, ground := Ground.data }], guard := none }) (v := .string S) rfl (by kernel_rfl) (by kernel_rfl) (by kernel_rfl) (by kernel_rfl) (fun _ _ _ h => h) (Or.inl ⟨by rfl, fun w0 hS0 => ?_⟩) (by assumption) ?_
            · have c0 := HTxt.out _ hS0; go_simp
            try simp only [Act.put, List.setIfInBounds_toArray, List.set_cons_zero, List.set_cons_succ]
            refine Till.two (i := 2) (j := 12) (o := { dst := some 36, op := Op.buildSlice 22 0 #[], type := 22, pos := "ref.go:21", after := #[], guard := none }) (o' := { dst := some 46, op := Op.buildSlice 22 1 #[(0, Operand.tmp 45)], type := 22, pos := "ref.go:21", after := #[{ on := 11, ground := Ground.data }], guard := none }) (by kernel_rfl) rfl rfl (fun K hK => ?_) (fun K hK => ?_)
            · go_simp
              have hHA : Below wr.heap.size wr ((wr.alloc (.cells #[] 9)).drew) := ((Below.refl _ _).alloc (Nat.le_refl _) _).drew
              have hNA : Below wr.heap.size wr ((wr.alloc (.cells #[] 9)).drew) := ((Below.refl _ _).alloc (Nat.le_refl _) _).drew
              have HEA := Lib.hid (show ((wr.alloc (.cells #[] 9)).drew).ownsRow wr.heap.size 9 1 (.slice (some ⟨wr.heap.size, 0, none⟩) 0 0) 0 [] from made_none wr (Below.refl wr.heap.size wr).size)
              refine hK.out _ _ (fun _ => hHA) ?_
              clear hK K
              try simp only [Act.put, List.setIfInBounds_toArray, List.set_cons_zero, List.set_cons_succ]
              generalize (wr.alloc (.cells #[] 9)).drew = wA at *
              refine Till.two (i := 7) (j := 12) (o := { dst := some 41, op := Op.call { callee := Callee.builtin Builtin.append, args := #[Operand.tmp 36, Operand.tmp 40], argTypes := #[22, 22] }, type := 22, pos := "ref.go:21", after := #[{ on := 2, ground := Ground.data }, { on := 6, ground := Ground.data }], guard := none }) (o' := { dst := some 46, op := Op.buildSlice 22 1 #[(0, Operand.tmp 45)], type := 22, pos := "ref.go:21", after := #[{ on := 11, ground := Ground.data }], guard := none }) (by kernel_rfl) rfl rfl (fun K hK => ?_) (fun K hK => ?_)
              · refine step_append_row rfl (.tmp 36) (.tmp 40) 22 rfl wr.heap.size 9 it (.string ⟨#[]⟩) 1 16 Tryd.underlying22 hit ht0 ht1 ht2 rfl (by decide) _ 0 [] rfl HEA.out _ x.length (strs x) rfl (owns_lower (owns_to HOx.out hHA) (Nat.zero_le _)) (strs_one x) (by unfold maxLen; omega) (by omega) hHA.size ?_
                intro vC wC hown hgrow
                rw [Nat.zero_add, List.nil_append] at hown
                have HCC := Lib.hid hown
                have hHC : Below wr.heap.size wr wC := hHA.grown hgrow hHA.size (fun k hk => (HEA.out.lt k hk).1)
                clear hown hgrow
                refine hK.out _ _ (fun _ => hHC) ?_
                clear hK K
                try simp only [Act.put, List.setIfInBounds_toArray, List.set_cons_zero, List.set_cons_succ]
                refine Till.next (i := 12) (o := { dst := some 46, op := Op.buildSlice 22 1 #[(0, Operand.tmp 45)], type := 22, pos := "ref.go:21", after := #[{ on := 11, ground := Ground.data }], guard := none }) (by kernel_rfl) rfl (fun K hK => ?_)
                go_simp
                have hHD : Below wr.heap.size wr ((wC).alloc (.cells #[.string S] 9)) := hHC.alloc hHC.size _
                have hND : Below wC.heap.size wC ((wC).alloc (.cells #[.string S] 9)) := ((Below.refl _ _).alloc (Nat.le_refl _) _)
                have HSD := Lib.hid (show ((wC).alloc (.cells #[.string S] 9)).ownsRow 0 9 1 (.slice (some ⟨wC.heap.size, 0, none⟩) 1 1) 1 (strs [S]) from made_one wC S)
                refine hK.out _ _ (fun _ => hHD) ?_
                clear hK K
                try simp only [Act.put, List.setIfInBounds_toArray, List.set_cons_zero, List.set_cons_succ]
                generalize (wC).alloc (.cells #[.string S] 9) = wD at *
                refine Till.next (i := 13) (o := { dst := some 47, op := Op.call { callee := Callee.builtin Builtin.append, args := #[Operand.tmp 41, Operand.tmp 46], argTypes := #[22, 22] }, type := 22, pos := "ref.go:21", after := #[{ on := 7, ground := Ground.data }, { on := 12, ground := Ground.data }, { on := 7, ground := Ground.chain }], guard := none }) (by kernel_rfl) rfl (fun K hK => ?_)
                refine step_append_row rfl (.tmp 41) (.tmp 46) 22 rfl wr.heap.size 9 it (.string ⟨#[]⟩) 1 16 Tryd.underlying22 hit ht0 ht1 ht2 rfl (by decide) _ x.length (strs x) rfl (owns_to HCC.out hND) _ 1 (strs [S]) rfl HSD.out (strs_one [S]) (by unfold maxLen; omega) (by omega) hHD.size ?_
                intro v9 w9 hown hgrow
                have HH9 : Below wr.heap.size wr w9 := hHD.grown hgrow hHD.size (fun k hk => ((owns_to HCC.out hND).lt k hk).1)
                have HT9 := Lib.hid (show w9.ownsRow w.heap.size 9 1 v9 (x ++ [S]).length (strs (x ++ [S])) from by rw [List.length_append, strs_two]; exact owns_lower hown HB.out.size)
                clear hown hgrow
                refine hK.out _ _ (fun _ => HH9) ?_
                clear hK K
                try simp only [Act.put, List.setIfInBounds_toArray, List.set_cons_zero, List.set_cons_succ]
                refine Till.take (i := 14) (oi := { dst := some 48, op := Op.indexAddr 30 (Operand.tmp 34) (Operand.tmp 35), type := 0, pos := "ref.go:21", after := #[{ on := 0, ground := Ground.data }, { on := 1, ground := Ground.data }, { on := 0, ground := Ground.phase }, { on := 1, ground := Ground.phase }, { on := 2, ground := Ground.phase }, { on := 3, ground := Ground.phase }, { on := 4, ground := Ground.phase }, { on := 5, ground := Ground.phase }, { on := 6, ground := Ground.phase }, { on := 7, ground := Ground.phase }, { on := 8, ground := Ground.phase }, { on := 9, ground := Ground.phase }, { on := 10, ground := Ground.phase }, { on := 11, ground := Ground.phase }, { on := 12, ground := Ground.phase }, { on := 13, ground := Ground.phase }], guard := none }) (v := .pointer (some ⟨w.heap.size, c, none⟩)) rfl (by kernel_rfl) (by kernel_rfl) (by kernel_rfl) (by kernel_rfl) (fun _ _ _ h => h) (Or.inl ⟨by rfl, fun w0 hS0 => ?_⟩) (by assumption) ?_
                · go_simp
                try simp only [Act.put, List.setIfInBounds_toArray, List.set_cons_zero, List.set_cons_succ]
                have HC9 := Lib.hid (HC.out.set HH9 (by decide) c HT9.out)
                rw [HSt.out] at HC9
                have HB9 := Lib.hid ((below_two HB.out HH9).setCell (p := ⟨w.heap.size, c, none⟩) (Nat.le_refl _) v9)
                obtain ⟨ao2, capx2, e0, e2, _⟩ := (HC.out.keep HH9).get HAt.out
                refine Till.next (i := 15) (o := { dst := none, op := Op.store 22 (Operand.tmp 48) (Operand.tmp 47), type := 0, pos := "ref.go:21", after := #[{ on := 14, ground := Ground.data }, { on := 13, ground := Ground.data }, { on := 13, ground := Ground.chain }, { on := 0, ground := Ground.phase }, { on := 1, ground := Ground.phase }, { on := 2, ground := Ground.phase }, { on := 3, ground := Ground.phase }, { on := 4, ground := Ground.phase }, { on := 5, ground := Ground.phase }, { on := 6, ground := Ground.phase }, { on := 7, ground := Ground.phase }, { on := 8, ground := Ground.phase }, { on := 9, ground := Ground.phase }, { on := 10, ground := Ground.phase }, { on := 11, ground := Ground.phase }, { on := 12, ground := Ground.phase }, { on := 13, ground := Ground.phase }], guard := none }) (by kernel_rfl) rfl (fun K hK => ?_)
                obtain ⟨ao9, cap9, rfl⟩ := owns_form HT9.out
                rw [List.length_append] at HC9 HB9
                go_simp
                refine hK.out _ _ (fun q => absurd rfl q) ?_
                clear hK K
                try simp only [Act.put, List.setIfInBounds_toArray, List.set_cons_zero, List.set_cons_succ]
                refine Till.done (by kernel_rfl) ?_
                go_wp2_with fail
                go_roundw
                case rel => exact ⟨k + 1, by omega, by go_num, HC9, HB9⟩
                case measure => simp [intOf]; omega
              · go_simp
                have hHC : Below wr.heap.size wr ((wA).alloc (.cells #[.string S] 9)) := hHA.alloc hHA.size _
                have hNC : Below wA.heap.size wA ((wA).alloc (.cells #[.string S] 9)) := ((Below.refl _ _).alloc (Nat.le_refl _) _)
                have HSC := Lib.hid (show ((wA).alloc (.cells #[.string S] 9)).ownsRow 0 9 1 (.slice (some ⟨wA.heap.size, 0, none⟩) 1 1) 1 (strs [S]) from made_one wA S)
                refine hK.out _ _ (fun _ => hHC) ?_
                clear hK K
                try simp only [Act.put, List.setIfInBounds_toArray, List.set_cons_zero, List.set_cons_succ]
                generalize (wA).alloc (.cells #[.string S] 9) = wC at *
                refine Till.next (i := 7) (o := { dst := some 41, op := Op.call { callee := Callee.builtin Builtin.append, args := #[Operand.tmp 36, Operand.tmp 40], argTypes := #[22, 22] }, type := 22, pos := "ref.go:21", after := #[{ on := 2, ground := Ground.data }, { on := 6, ground := Ground.data }], guard := none }) (by kernel_rfl) rfl (fun K hK => ?_)
                refine step_append_row rfl (.tmp 36) (.tmp 40) 22 rfl wr.heap.size 9 it (.string ⟨#[]⟩) 1 16 Tryd.underlying22 hit ht0 ht1 ht2 rfl (by decide) _ 0 [] rfl (owns_to HEA.out hNC) _ x.length (strs x) rfl (owns_lower (owns_to HOx.out hHC) (Nat.zero_le _)) (strs_one x) (by unfold maxLen; omega) (by omega) hHC.size ?_
                intro vD wD hown hgrow
                rw [Nat.zero_add, List.nil_append] at hown
                have HCD := Lib.hid hown
                have hHD : Below wr.heap.size wr wD := hHC.grown hgrow hHC.size (fun k hk => ((owns_to HEA.out hNC).lt k hk).1)
                have HSD := Lib.hid (owns_grown HSC.out hgrow (fun z => absurd (Option.some.inj z) (Nat.ne_of_gt (own_lt HEA.out))))
                clear hown hgrow
                refine hK.out _ _ (fun _ => hHD) ?_
                clear hK K
                try simp only [Act.put, List.setIfInBounds_toArray, List.set_cons_zero, List.set_cons_succ]
                refine Till.next (i := 13) (o := { dst := some 47, op := Op.call { callee := Callee.builtin Builtin.append, args := #[Operand.tmp 41, Operand.tmp 46], argTypes := #[22, 22] }, type := 22, pos := "ref.go:21", after := #[{ on := 7, ground := Ground.data }, { on := 12, ground := Ground.data }, { on := 7, ground := Ground.chain }], guard := none }) (by kernel_rfl) rfl (fun K hK => ?_)
                refine step_append_row rfl (.tmp 41) (.tmp 46) 22 rfl wr.heap.size 9 it (.string ⟨#[]⟩) 1 16 Tryd.underlying22 hit ht0 ht1 ht2 rfl (by decide) _ x.length (strs x) rfl HCD.out _ 1 (strs [S]) rfl HSD.out (strs_one [S]) (by unfold maxLen; omega) (by omega) hHD.size ?_
                intro v9 w9 hown hgrow
                have HH9 : Below wr.heap.size wr w9 := hHD.grown hgrow hHD.size (fun k hk => (HCD.out.lt k hk).1)
                have HT9 := Lib.hid (show w9.ownsRow w.heap.size 9 1 v9 (x ++ [S]).length (strs (x ++ [S])) from by rw [List.length_append, strs_two]; exact owns_lower hown HB.out.size)
                clear hown hgrow
                refine hK.out _ _ (fun _ => HH9) ?_
                clear hK K
                try simp only [Act.put, List.setIfInBounds_toArray, List.set_cons_zero, List.set_cons_succ]
                refine Till.take (i := 14) (oi := { dst := some 48, op := Op.indexAddr 30 (Operand.tmp 34) (Operand.tmp 35), type := 0, pos := "ref.go:21", after := #[{ on := 0, ground := Ground.data }, { on := 1, ground := Ground.data }, { on := 0, ground := Ground.phase }, { on := 1, ground := Ground.phase }, { on := 2, ground := Ground.phase }, { on := 3, ground := Ground.phase }, { on := 4, ground := Ground.phase }, { on := 5, ground := Ground.phase }, { on := 6, ground := Ground.phase }, { on := 7, ground := Ground.phase }, { on := 8, ground := Ground.phase }, { on := 9, ground := Ground.phase }, { on := 10, ground := Ground.phase }, { on := 11, ground := Ground.phase }, { on := 12, ground := Ground.phase }, { on := 13, ground := Ground.phase }], guard := none }) (v := .pointer (some ⟨w.heap.size, c, none⟩)) rfl (by kernel_rfl) (by kernel_rfl) (by kernel_rfl) (by kernel_rfl) (fun _ _ _ h => h) (Or.inl ⟨by rfl, fun w0 hS0 => ?_⟩) (by assumption) ?_
                · go_simp
                try simp only [Act.put, List.setIfInBounds_toArray, List.set_cons_zero, List.set_cons_succ]
                have HC9 := Lib.hid (HC.out.set HH9 (by decide) c HT9.out)
                rw [HSt.out] at HC9
                have HB9 := Lib.hid ((below_two HB.out HH9).setCell (p := ⟨w.heap.size, c, none⟩) (Nat.le_refl _) v9)
                obtain ⟨ao2, capx2, e0, e2, _⟩ := (HC.out.keep HH9).get HAt.out
                refine Till.next (i := 15) (o := { dst := none, op := Op.store 22 (Operand.tmp 48) (Operand.tmp 47), type := 0, pos := "ref.go:21", after := #[{ on := 14, ground := Ground.data }, { on := 13, ground := Ground.data }, { on := 13, ground := Ground.chain }, { on := 0, ground := Ground.phase }, { on := 1, ground := Ground.phase }, { on := 2, ground := Ground.phase }, { on := 3, ground := Ground.phase }, { on := 4, ground := Ground.phase }, { on := 5, ground := Ground.phase }, { on := 6, ground := Ground.phase }, { on := 7, ground := Ground.phase }, { on := 8, ground := Ground.phase }, { on := 9, ground := Ground.phase }, { on := 10, ground := Ground.phase }, { on := 11, ground := Ground.phase }, { on := 12, ground := Ground.phase }, { on := 13, ground := Ground.phase }], guard := none }) (by kernel_rfl) rfl (fun K hK => ?_)
                obtain ⟨ao9, cap9, rfl⟩ := owns_form HT9.out
                rw [List.length_append] at HC9 HB9
                go_simp
                refine hK.out _ _ (fun q => absurd rfl q) ?_
                clear hK K
                try simp only [Act.put, List.setIfInBounds_toArray, List.set_cons_zero, List.set_cons_succ]
                refine Till.done (by kernel_rfl) ?_
                go_wp2_with fail
                go_roundw
                case rel => exact ⟨k + 1, by omega, by go_num, HC9, HB9⟩
                case measure => simp [intOf]; omega
            · go_simp
              have hHA : Below wr.heap.size wr ((wr.alloc (.cells #[.string S] 9)).drew) := ((Below.refl _ _).alloc (Nat.le_refl _) _).drew
              have hNA : Below wr.heap.size wr ((wr.alloc (.cells #[.string S] 9)).drew) := ((Below.refl _ _).alloc (Nat.le_refl _) _).drew
              have HSA := Lib.hid (show ((wr.alloc (.cells #[.string S] 9)).drew).ownsRow 0 9 1 (.slice (some ⟨wr.heap.size, 0, none⟩) 1 1) 1 (strs [S]) from made_one wr S)
              refine hK.out _ _ (fun _ => hHA) ?_
              clear hK K
              try simp only [Act.put, List.setIfInBounds_toArray, List.set_cons_zero, List.set_cons_succ]
              generalize (wr.alloc (.cells #[.string S] 9)).drew = wA at *
              refine Till.next (i := 2) (o := { dst := some 36, op := Op.buildSlice 22 0 #[], type := 22, pos := "ref.go:21", after := #[], guard := none }) (by kernel_rfl) rfl (fun K hK => ?_)
              go_simp
              have hHC : Below wr.heap.size wr ((wA).alloc (.cells #[] 9)) := hHA.alloc hHA.size _
              have hNC : Below wA.heap.size wA ((wA).alloc (.cells #[] 9)) := ((Below.refl _ _).alloc (Nat.le_refl _) _)
              have HEC := Lib.hid (show ((wA).alloc (.cells #[] 9)).ownsRow wr.heap.size 9 1 (.slice (some ⟨wA.heap.size, 0, none⟩) 0 0) 0 [] from made_none wA hHA.size)
              refine hK.out _ _ (fun _ => hHC) ?_
              clear hK K
              try simp only [Act.put, List.setIfInBounds_toArray, List.set_cons_zero, List.set_cons_succ]
              generalize (wA).alloc (.cells #[] 9) = wC at *
              refine Till.next (i := 7) (o := { dst := some 41, op := Op.call { callee := Callee.builtin Builtin.append, args := #[Operand.tmp 36, Operand.tmp 40], argTypes := #[22, 22] }, type := 22, pos := "ref.go:21", after := #[{ on := 2, ground := Ground.data }, { on := 6, ground := Ground.data }], guard := none }) (by kernel_rfl) rfl (fun K hK => ?_)
              refine step_append_row rfl (.tmp 36) (.tmp 40) 22 rfl wr.heap.size 9 it (.string ⟨#[]⟩) 1 16 Tryd.underlying22 hit ht0 ht1 ht2 rfl (by decide) _ 0 [] rfl HEC.out _ x.length (strs x) rfl (owns_lower (owns_to HOx.out hHC) (Nat.zero_le _)) (strs_one x) (by unfold maxLen; omega) (by omega) hHC.size ?_
              intro vD wD hown hgrow
              rw [Nat.zero_add, List.nil_append] at hown
              have HCD := Lib.hid hown
              have hHD : Below wr.heap.size wr wD := hHC.grown hgrow hHC.size (fun k hk => (HEC.out.lt k hk).1)
              have HSD := Lib.hid (owns_grown (owns_to HSA.out hNC) hgrow (fun z => absurd (Option.some.inj z) (Nat.ne_of_lt (own_lt HSA.out))))
              clear hown hgrow
              refine hK.out _ _ (fun _ => hHD) ?_
              clear hK K
              try simp only [Act.put, List.setIfInBounds_toArray, List.set_cons_zero, List.set_cons_succ]
              refine Till.next (i := 13) (o := { dst := some 47, op := Op.call { callee := Callee.builtin Builtin.append, args := #[Operand.tmp 41, Operand.tmp 46], argTypes := #[22, 22] }, type := 22, pos := "ref.go:21", after := #[{ on := 7, ground := Ground.data }, { on := 12, ground := Ground.data }, { on := 7, ground := Ground.chain }], guard := none }) (by kernel_rfl) rfl (fun K hK => ?_)
              refine step_append_row rfl (.tmp 41) (.tmp 46) 22 rfl wr.heap.size 9 it (.string ⟨#[]⟩) 1 16 Tryd.underlying22 hit ht0 ht1 ht2 rfl (by decide) _ x.length (strs x) rfl HCD.out _ 1 (strs [S]) rfl HSD.out (strs_one [S]) (by unfold maxLen; omega) (by omega) hHD.size ?_
              intro v9 w9 hown hgrow
              have HH9 : Below wr.heap.size wr w9 := hHD.grown hgrow hHD.size (fun k hk => (HCD.out.lt k hk).1)
              have HT9 := Lib.hid (show w9.ownsRow w.heap.size 9 1 v9 (x ++ [S]).length (strs (x ++ [S])) from by rw [List.length_append, strs_two]; exact owns_lower hown HB.out.size)
              clear hown hgrow
              refine hK.out _ _ (fun _ => HH9) ?_
              clear hK K
              try simp only [Act.put, List.setIfInBounds_toArray, List.set_cons_zero, List.set_cons_succ]
              refine Till.take (i := 14) (oi := { dst := some 48, op := Op.indexAddr 30 (Operand.tmp 34) (Operand.tmp 35), type := 0, pos := "ref.go:21", after := #[{ on := 0, ground := Ground.data }, { on := 1, ground := Ground.data }, { on := 0, ground := Ground.phase }, { on := 1, ground := Ground.phase }, { on := 2, ground := Ground.phase }, { on := 3, ground := Ground.phase }, { on := 4, ground := Ground.phase }, { on := 5, ground := Ground.phase }, { on := 6, ground := Ground.phase }, { on := 7, ground := Ground.phase }, { on := 8, ground := Ground.phase }, { on := 9, ground := Ground.phase }, { on := 10, ground := Ground.phase }, { on := 11, ground := Ground.phase }, { on := 12, ground := Ground.phase }, { on := 13, ground := Ground.phase }], guard := none }) (v := .pointer (some ⟨w.heap.size, c, none⟩)) rfl (by kernel_rfl) (by kernel_rfl) (by kernel_rfl) (by kernel_rfl) (fun _ _ _ h => h) (Or.inl ⟨by rfl, fun w0 hS0 => ?_⟩) (by assumption) ?_
              · go_simp
              try simp only [Act.put, List.setIfInBounds_toArray, List.set_cons_zero, List.set_cons_succ]
              have HC9 := Lib.hid (HC.out.set HH9 (by decide) c HT9.out)
              rw [HSt.out] at HC9
              have HB9 := Lib.hid ((below_two HB.out HH9).setCell (p := ⟨w.heap.size, c, none⟩) (Nat.le_refl _) v9)
              obtain ⟨ao2, capx2, e0, e2, _⟩ := (HC.out.keep HH9).get HAt.out
              refine Till.next (i := 15) (o := { dst := none, op := Op.store 22 (Operand.tmp 48) (Operand.tmp 47), type := 0, pos := "ref.go:21", after := #[{ on := 14, ground := Ground.data }, { on := 13, ground := Ground.data }, { on := 13, ground := Ground.chain }, { on := 0, ground := Ground.phase }, { on := 1, ground := Ground.phase }, { on := 2, ground := Ground.phase }, { on := 3, ground := Ground.phase }, { on := 4, ground := Ground.phase }, { on := 5, ground := Ground.phase }, { on := 6, ground := Ground.phase }, { on := 7, ground := Ground.phase }, { on := 8, ground := Ground.phase }, { on := 9, ground := Ground.phase }, { on := 10, ground := Ground.phase }, { on := 11, ground := Ground.phase }, { on := 12, ground := Ground.phase }, { on := 13, ground := Ground.phase }], guard := none }) (by kernel_rfl) rfl (fun K hK => ?_)
              obtain ⟨ao9, cap9, rfl⟩ := owns_form HT9.out
              rw [List.length_append] at HC9 HB9
              go_simp
              refine hK.out _ _ (fun q => absurd rfl q) ?_
              clear hK K
              try simp only [Act.put, List.setIfInBounds_toArray, List.set_cons_zero, List.set_cons_succ]
              refine Till.done (by kernel_rfl) ?_
              go_wp2_with fail
              go_roundw
              case rel => exact ⟨k + 1, by omega, by go_num, HC9, HB9⟩
              case measure => simp [intOf]; omega
        · have e1 : decide ((k : Int) < (n : Int)) = false := decide_eq_false (by omega)
          have hkn : k = n := by omega
          subst hkn
          have HE := Lib.hid (show colsK l cols across k = colsL l cols across from by rw [← HN.out]; rfl)
          rw [HE.out] at HC
          go_wp2_with fail
          go_ret
          exact ⟨_, rfl, HC.out, HB.out⟩
end Go.Proofs.YtemnbleacjpfcaaDoor.L
