/-
  Rows of strings.Builders that a call has made, and a builder alone: what WriteString, Reset and String do to one of them. Conditions: texts of at most 1000000000 bytes.
-/
import Derived.Test.YtemnbleacjpfcaaDoorBase
import Derived.Lib.FrozenHead2
import Derived.Laws.Externs
import Derived.RegionTactic
import Derived.ChangeAlike
set_option linter.unusedVariables false
namespace Go.Proofs.YtemnbleacjpfcaaDoor.B
open Go.RowKit

theorem infoByte : (Tryd.prog.info? 5).map (fun i => (i.zero, i.size, i.bytes)) = some (some (.int .u8 0), 1, 1) := by kernel_rfl
theorem cellsByte : Tryd.prog.cellsOf 5 = 1 := by kernel_rfl
theorem cellsBld : Tryd.prog.cellsOf 42 = 2 := by kernel_rfl
theorem sizeBld : (Tryd.prog.info? 42).map (·.size) = some 2 := by kernel_rfl
theorem sameBld : sameLayout Tryd.prog Tryd.prog.depth 42 42 = true := by kernel_rfl
theorem lies_bld (n i : Nat) (h : i < n) : liesAt Tryd.prog Tryd.prog.depth 42 (2 * n / Tryd.prog.cellsOf 42) (2 * i) 42 1 = true := by
  have hd : Tryd.prog.depth = (2 * (Tryd.prog.types.size + Made.depth) + 1) + 1 := rfl
  rw [cellsBld, hd]
  simp only [liesAt, Bool.or_eq_true]
  left
  have hs := sameBld
  generalize hf : (fun x => sameLayout Tryd.prog Tryd.prog.depth x 42) = f
  have hs2 : f 42 = true := by rw [← hf]; exact hs
  rw [hd]
  simp only [rowAt, cellsBld]
  rw [if_neg (by decide)]
  simp only [Bool.or_eq_true, Bool.and_eq_true, beq_iff_eq, decide_eq_true_eq]
  left
  exact ⟨⟨by omega, by omega⟩, hs2⟩

/-! ### appending a text, and where it lies behind it -/
theorem grown_freeze (w : World) (p : Addr) (n : Nat) : w.grownBy (w.freeze p n) (some p.block) := by
  unfold World.freeze
  split
  · exact ⟨rfl, rfl, rfl, Nat.le_refl _, fun _ _ _ => rfl⟩
  · refine ⟨rfl, rfl, rfl, by simp, fun k _ hk => ?_⟩
    simp only [Array.getElem?_modify]
    rw [if_neg fun e => hk (by rw [e])]
theorem ownF_freeze {w : World} {B g n cap : Nat} {e : TypeId} {xs : List Value} (h : w.ownsRowF B e 1 (.slice (some ⟨g, 0, none⟩) n cap) n xs) : (w.freeze ⟨g, 0, none⟩ n).ownsRowF B e 1 (.slice (some ⟨g, 0, none⟩) n cap) n xs := by
  unfold World.freeze
  split
  · exact h
  · refine ⟨h.1, ?_⟩
    rcases h.2 with ⟨hv, _⟩ | ⟨g', cap', cur, fz, hv, hb, hg, hfz, rest⟩
    · cases hv
    · simp only [Value.slice.injEq, Option.some.injEq, Addr.mk.injEq] at hv
      obtain ⟨⟨rfl, _, _⟩, _, rfl⟩ := hv
      obtain ⟨lo, hi⟩ := fz
      refine .inr ⟨g, cap, cur, (if lo == hi then (0, 0 + n) else (min lo 0, max hi (0 + n))), rfl, hb, by simp [Array.getElem?_modify, hg], ?_, rest⟩
      simp only at hfz
      split <;> simp <;> omega
theorem append_text (w : World) (B : Nat) (ty : TypeId) (v : Value) (n : Nat) (xs : List Value) (hown : w.ownsRowF B 5 1 v n xs) (s : ByteArray) (hz : n + s.size ≤ 2000000000) (hB : B ≤ w.heap.size) :
    ∃ v' w', (Builtin.append_ #[40, 9] ty #[v, .string s]).run Tryd.prog w = .ok v' w' ∧ w'.ownsRowF B 5 1 v' (n + s.size) (xs ++ Lib.strCells s) ∧ w.grownBy w' v.ownBlock ∧
      (v' = .slice none 0 0 ↔ v = .slice none 0 0 ∧ s.size = 0) ∧ ∀ k, v'.ownBlock = some k → v.ownBlock = some k ∨ w.heap.size ≤ k := by
  obtain ⟨i0, hi, hz0, hz1, hz2⟩ := info_parts infoByte
  have hmx : n + s.size ≤ maxLen := by unfold maxLen; omega
  obtain ⟨v', w', hr, h2, h3, h4⟩ := Lib.run_append_own_stringF (P := Tryd.prog) w B 40 9 ty 5 i0 Tryd.underlying40 Tryd.underlying9 hi hz0 hz1 hz2 v n xs hown s hmx (by omega) hB
  refine ⟨v', w', hr, h2, h3, h4, fun k hk => ?_⟩
  rcases hown.2 with ⟨rfl, rfl⟩ | ⟨g, cap, cur, fz, rfl, hbg, hg, hfz, hnc, hcm, hcs, htake⟩
  · have hx : xs = [] := List.eq_nil_of_length_eq_zero (by rw [hown.1])
    subst hx
    obtain ⟨v2, w2, hr2, q2, _⟩ := Lib.run_append_own_stringF (P := Tryd.prog) w w.heap.size 40 9 ty 5 i0 Tryd.underlying40 Tryd.underlying9 hi hz0 hz1 hz2 _ 0 [] (World.ownsRowF_nil w _ _ _) s hmx (by omega) (Nat.le_refl _)
    rw [hr] at hr2
    simp only [Result.ok.injEq] at hr2
    obtain ⟨rfl, rfl⟩ := hr2
    exact .inr (q2.lt k hk).1
  · by_cases hroom : n + s.size ≤ cap
    · have hr2 := Lib.run_append_room_stringF (P := Tryd.prog) w 40 9 ty 5 i0 Tryd.underlying40 Tryd.underlying9 hi hz1 g n cap cur fz hg (by omega) s hroom (by omega)
      rw [hr] at hr2
      simp only [Result.ok.injEq] at hr2
      left
      rw [hr2.1] at hk
      exact hk
    · have hr2 := Lib.run_append_grow_string (P := Tryd.prog) w 40 9 ty 5 i0 (.int .u8 0) Tryd.underlying40 Tryd.underlying9 hi hz0 ⟨g, 0, none⟩ n cap xs (by rw [hz1]; exact hown.1) (hown.cells (g := g) rfl) s (by omega) (by omega) (by rw [hz2]; exact growslice_fits (by omega) (by omega))
      rw [hr] at hr2
      simp only [Result.ok.injEq] at hr2
      right
      rw [hr2.1] at hk
      have : w.heap.size = k := Option.some.inj hk
      omega

/-! ### builders in a row -/
/-- In block g n builders lie side by side; builder i holds the text t i, its buffer is V i; no two share one. -/
structure Blds (B g n : Nat) (t : Nat → ByteArray) (V : Nat → Value) (W : World) : Prop where
  lo : B ≤ g
  blk : ∃ cs : Array Value, W.heap[g]? = some (.cells cs 42 (0, 0)) ∧ cs.size = 2 * n ∧ ∀ i, i < n → (cs[2 * i]? = some (.pointer none) ∨ cs[2 * i]? = some (.pointer (some ⟨g, 2 * i, none⟩))) ∧ cs[2 * i + 1]? = some (V i)
  own : ∀ i, i < n → W.ownsRowF B 5 1 (V i) (t i).size (Lib.strCells (t i))
  nil : ∀ i, i < n → (t i).size = 0 → V i = .slice none 0 0
  apart : ∀ i j, i < n → j < n → i ≠ j → (V i).ownBlock = none ∨ (V i).ownBlock ≠ (V j).ownBlock
theorem Blds.lt {B g n : Nat} {t : Nat → ByteArray} {V : Nat → Value} {W : World} (h : Blds B g n t V W) : g < W.heap.size := by
  obtain ⟨cs, h1, _⟩ := h.blk
  exact heap_lt h1
theorem Blds.ne {B g n : Nat} {t : Nat → ByteArray} {V : Nat → Value} {W : World} (h : Blds B g n t V W) {i : Nat} (hi : i < n) : (V i).ownBlock ≠ some g := by
  obtain ⟨cs, h1, _⟩ := h.blk
  exact Lib.ownBlock_neF (h.own i hi) h1 (by decide)
/-- What turns neither the row nor a buffer. -/
theorem Blds.at_ {B g n : Nat} {t : Nat → ByteArray} {V : Nat → Value} {W W' : World} (h : Blds B g n t V W) (hg : W'.heap[g]? = W.heap[g]?) (hv : ∀ i, i < n → ∀ k, (V i).ownBlock = some k → W'.heap[k]? = W.heap[k]?) : Blds B g n t V W' := by
  obtain ⟨cs, h1, h2⟩ := h.blk
  refine ⟨h.lo, ⟨cs, hg.trans h1, h2⟩, fun i hi => ?_, h.nil, h.apart⟩
  obtain ⟨q1, q2⟩ := h.own i hi
  refine ⟨q1, ?_⟩
  rcases q2 with q2 | ⟨k, cap, cur, fz, hv2, hb, hk, rest⟩
  · exact .inl q2
  · exact .inr ⟨k, cap, cur, fz, hv2, hb, (hv i hi k (by rw [hv2]; rfl)).trans hk, rest⟩
theorem Blds.keep {B g n : Nat} {t : Nat → ByteArray} {V : Nat → Value} {W W' : World} (h : Blds B g n t V W) (hb : Below W.heap.size W W') : Blds B g n t V W' :=
  h.at_ (hb.block g h.lt) fun i hi k hk => hb.block k ((h.own i hi).lt k hk).2
theorem Blds.drew {B g n : Nat} {t : Nat → ByteArray} {V : Nat → Value} {W : World} (h : Blds B g n t V W) : Blds B g n t V W.drew := h.at_ rfl fun _ _ _ _ => rfl
theorem bld_cell {B g n : Nat} {t : Nat → ByteArray} {V : Nat → Value} {W : World} (h : Blds B g n t V W) {i : Nat} (hi : i < n) :
    (W.cell? ⟨g, 2 * i, none⟩ = some (.pointer none) ∨ W.cell? ⟨g, 2 * i, none⟩ = some (.pointer (some ⟨g, 2 * i, none⟩))) ∧ W.cell? ⟨g, 2 * i + 1, none⟩ = some (V i) ∧ W.frozen? ⟨g, 2 * i, none⟩ = false ∧ W.frozen? ⟨g, 2 * i + 1, none⟩ = false ∧ W.shape? g = some (42, 2 * n) := by
  obtain ⟨cs, h1, h2, h3⟩ := h.blk
  obtain ⟨q1, q2⟩ := h3 i hi
  rw [Lib.cell_of_heap h1, Lib.cell_of_heap h1]
  exact ⟨q1, q2, Lib.frozen_of_heap h1 _, Lib.frozen_of_heap h1 _, by simp [World.shape?, h1, h2]⟩
/-- A store into the row's block turns no buffer. -/
theorem bld_store {B g n : Nat} {t : Nat → ByteArray} {V : Nat → Value} {W : World} (h : Blds B g n t V W) (a : Nat) (v : Value) {i : Nat} (hi : i < n) : (W.setCell ⟨g, a, none⟩ v).ownsRowF B 5 1 (V i) (t i).size (Lib.strCells (t i)) := by
  have hne := h.ne hi
  refine (h.own i hi).kept (row := some g) ⟨rfl, rfl, rfl, by simp [World.setCell], fun k _ hk => Below.heap_setCell _ _ _ _ (fun e => hk (by rw [e]))⟩ (.inr hne)
theorem set_block {W : World} {g a : Nat} {cs : Array Value} {T : TypeId} (h : W.heap[g]? = some (.cells cs T (0, 0))) (v : Value) : (W.setCell ⟨g, a, none⟩ v).heap[g]? = some (.cells (cs.setIfInBounds a v) T (0, 0)) := heap_setCell_same W g a cs T v h
/-- A builder's own address is put down. -/
theorem Blds.used {B g n : Nat} {t : Nat → ByteArray} {V : Nat → Value} {W : World} (h : Blds B g n t V W) {i : Nat} (hi : i < n) : Blds B g n t V (W.setCell ⟨g, 2 * i, none⟩ (.pointer (some ⟨g, 2 * i, none⟩))) := by
  obtain ⟨cs, h1, h2, h3⟩ := h.blk
  refine ⟨h.lo, ⟨_, set_block h1 _, by rw [Array.size_setIfInBounds]; exact h2, fun j hj => ?_⟩, fun j hj => bld_store h _ _ hj, h.nil, h.apart⟩
  obtain ⟨q1, q2⟩ := h3 j hj
  rw [Array.getElem?_setIfInBounds, Array.getElem?_setIfInBounds]
  by_cases q : 2 * i = 2 * j
  · rw [if_pos q, if_pos (by omega), if_neg (by omega)]
    refine ⟨.inr ?_, q2⟩
    rw [show i = j by omega]
  · rw [if_neg q, if_neg (by omega)]
    exact ⟨q1, q2⟩
def upd {α : Type} (f : Nat → α) (i : Nat) (x : α) : Nat → α := fun j => if j = i then x else f j
theorem upd_here {α : Type} (f : Nat → α) (i : Nat) (x : α) : upd f i x i = x := if_pos rfl
theorem upd_else {α : Type} {f : Nat → α} {i j : Nat} {x : α} (h : j ≠ i) : upd f i x j = f j := if_neg h
/-- Builder i's buffer becomes another one. -/
theorem Blds.put {B g n : Nat} {t : Nat → ByteArray} {V : Nat → Value} {W W2 : World} (h : Blds B g n t V W) {i : Nat} (hi : i < n) (hg : W.grownBy W2 (V i).ownBlock) {v : Value} {s : ByteArray} (hown : W2.ownsRowF B 5 1 v s.size (Lib.strCells s))
    (hn : s.size = 0 → v = .slice none 0 0) (hk : ∀ k, v.ownBlock = some k → (V i).ownBlock = some k ∨ W.heap.size ≤ k) : Blds B g n (upd t i s) (upd V i v) (W2.setCell ⟨g, 2 * i + 1, none⟩ v) := by
  obtain ⟨cs, h1, h2, h3⟩ := h.blk
  have hg2 : W2.heap[g]? = some (.cells cs 42 (0, 0)) := (hg.block g h.lt (fun e => h.ne hi e.symm)).trans h1
  have hv : v.ownBlock ≠ some g := fun e => by
    rcases hk g e with q | q
    · exact h.ne hi q
    · have := h.lt; omega
  have keepSet : ∀ {u : Value} {m : Nat} {xs : List Value}, W2.ownsRowF B 5 1 u m xs → u.ownBlock ≠ some g → (W2.setCell ⟨g, 2 * i + 1, none⟩ v).ownsRowF B 5 1 u m xs := fun hu hne =>
    hu.kept (row := some g) ⟨rfl, rfl, rfl, by simp [World.setCell], fun k _ hk => Below.heap_setCell _ _ _ _ (fun e => hk (by rw [e]))⟩ (.inr hne)
  refine ⟨h.lo, ⟨_, set_block hg2 _, by rw [Array.size_setIfInBounds]; exact h2, fun j hj => ?_⟩, fun j hj => ?_, fun j hj => ?_, fun a b ha hb hab => ?_⟩
  · obtain ⟨q1, q2⟩ := h3 j hj
    rw [Array.getElem?_setIfInBounds, Array.getElem?_setIfInBounds, if_neg (by omega)]
    refine ⟨q1, ?_⟩
    by_cases q : j = i
    · subst q
      rw [if_pos rfl, if_pos (by omega), upd_here]
    · rw [if_neg (by omega), upd_else q]
      exact q2
  · by_cases q : j = i
    · subst q
      rw [upd_here, upd_here]
      exact keepSet hown hv
    · rw [upd_else q, upd_else q]
      refine keepSet ((h.own j hj).kept hg ?_) (h.ne hj)
      rcases h.apart j i hj hi q with q2 | q2
      · exact .inl q2
      · exact .inr q2
  · by_cases q : j = i
    · subst q
      rw [upd_here, upd_here]
      exact hn
    · rw [upd_else q, upd_else q]
      exact h.nil j hj
  · have far : ∀ c, c < n → c ≠ i → ∀ k, (V c).ownBlock = some k → v.ownBlock = some k → False := fun c hc hci k hk1 hk2 => by
      rcases hk k hk2 with q | q
      · rcases h.apart c i hc hi hci with q2 | q2
        · rw [q2] at hk1; cases hk1
        · exact q2 (hk1.trans q.symm)
      · have := ((h.own c hc).lt k hk1).2
        omega
    by_cases qa : a = i
    · subst qa
      rw [upd_here, upd_else (Ne.symm hab)]
      rcases hvb : v.ownBlock with _ | k
      · exact .inl rfl
      · exact .inr fun e => far b hb (Ne.symm hab) k e.symm hvb
    · rw [upd_else qa]
      by_cases qb : b = i
      · subst qb
        rw [upd_here]
        rcases hva : (V a).ownBlock with _ | k
        · exact .inl rfl
        · exact .inr fun e => far a ha qa k hva e.symm
      · rw [upd_else qb]
        exact h.apart a b ha hb hab
theorem Blds.frozen {B g n : Nat} {t : Nat → ByteArray} {V : Nat → Value} {W : World} (h : Blds B g n t V W) {i : Nat} (hi : i < n) {k cap : Nat} (hv : V i = .slice (some ⟨k, 0, none⟩) (t i).size cap) : Blds B g n t V (W.freeze ⟨k, 0, none⟩ (t i).size) := by
  have hgr := grown_freeze W ⟨k, 0, none⟩ (t i).size
  have hok : (V i).ownBlock = some k := by rw [hv]; rfl
  obtain ⟨cs, h1, h2⟩ := h.blk
  refine ⟨h.lo, ⟨cs, (hgr.block g h.lt (fun e => h.ne hi (hok.trans e.symm))).trans h1, h2⟩, fun j hj => ?_, h.nil, h.apart⟩
  by_cases q : j = i
  · subst q
    have := h.own j hj
    rw [hv] at this ⊢
    exact ownF_freeze this
  · refine (h.own j hj).kept hgr ?_
    rcases h.apart j i hj hi q with q2 | q2
    · exact .inl q2
    · right
      rw [hok] at q2
      exact q2
/-- A builder alone, in a box. -/
theorem Blds.alone (W0 : World) : Blds W0.heap.size W0.heap.size 1 (fun _ => ByteArray.empty) (fun _ => .slice none 0 0) (W0.alloc (.cells #[.pointer none, .slice none 0 0] 42)) := by
  refine ⟨Nat.le_refl _, ⟨_, heap_alloc_new _ _, rfl, fun i hi => ?_⟩, fun i hi => World.ownsRowF_nil _ _ _ _, fun _ _ _ => rfl, fun i j h1 h2 h3 => by omega⟩
  obtain rfl : i = 0 := by omega
  exact ⟨.inl rfl, rfl⟩

/-! ### the methods -/
set_option maxHeartbeats 2000000 in
set_option maxRecDepth 100000 in
theorem copyCheck_any {B g n : Nat} {t : Nat → ByteArray} {V : Nat → Value} {w : World} (h : Blds B g n t V w) {i o : Nat} (hi : i < n) (ho : o = 2 * i) :
    Calls Tryd.prog 34 #[.pointer (some ⟨g, o, none⟩)] w fun e w' => e = .returned (.tuple #[]) ∧ Blds B g n t V w' ∧ Below B w w' ∧ Lib.OthersKept 5 (some g) w w' := by
  obtain ⟨j, hj, hjs⟩ := Option.map_eq_some_iff.1 sizeBld
  obtain ⟨hp, _, hf, _, hsh⟩ := bld_cell h hi
  have hli := lies_bld n i hi
  have HU := Lib.hid (h.used hi)
  have HH := Lib.hid h
  have hlt : 2 * i < 2 * n := by omega
  subst ho
  clear h
  rcases hp with hp | hp
  · have HB := Lib.hid ((Below.refl B w).setCell (p := ⟨g, 2 * i, none⟩) HH.out.lo (.pointer (some ⟨g, 2 * i, none⟩)))
    have HK := Lib.hid ((Lib.OthersKept.refl 5 (some g) w).setCell ⟨g, 2 * i, none⟩ rfl (.pointer (some ⟨g, 2 * i, none⟩)))
    generalize 2 * i = o at *
    go_enter Tryd.func34, Tryd.ntmps34
    go_wp2
    rw [Lib.run_to_unsafe w ⟨g, o, none⟩ Tryd.underlying39 Tryd.underlying69 hj (by rw [hjs]; decide) hsh hlt]
    simp only [Result.andThen]
    rw [Oper.upon_value]
    go_wp2
    rw [run_callFunc_extern Tryd.func40 (by kernel_rfl) (by kernel_rfl) (by kernel_rfl) (e := Extern.AbiNoEscape.same) (by kernel_rfl)]
    rw [Lib.run_noEscape]
    simp only [Result.andThen]
    rw [Oper.upon_value]
    go_wp2
    rw [Lib.run_from_unsafe w ⟨g, o, none⟩ Tryd.underlying69 Tryd.underlying39 hj hsh hli]
    simp only [Result.andThen]
    rw [Oper.upon_value]
    go_wp2
    go_end0
    exact ⟨rfl, HU.out, HB.out, HK.out⟩
  · generalize 2 * i = o at *
    go_enter Tryd.func34, Tryd.ntmps34
    go_wp2
    rw [Lib.run_neq_ptr_same w _ Tryd.underlying39 hj]
    go_wp2
    go_end0
    exact ⟨rfl, HH.out, Below.refl B _, Lib.OthersKept.refl _ _ _⟩
theorem strs_app (a b : ByteArray) : Lib.strCells (a ++ b) = Lib.strCells a ++ Lib.strCells b := by
  unfold Lib.strCells
  simp
theorem app_size' (a b : ByteArray) : (a ++ b).size = a.size + b.size := by
  rw [← size_list, ← size_list a, ← size_list b]
  simp
/-- The step 'b.buf = append(b.buf, s...)', for the walk. -/
theorem bld_append {ops : Array Oper} {rest : List Oper} {o : Oper} {a : Act} {Q : Exit → Act → World → Prop} {w : World} (hgd : o.guard = none) (sl x : Operand)
    (ho : o.op = .call { callee := .builtin .append, args := #[sl, x], argTypes := #[40, 9] }) (B : Nat) {v : Value} {n : Nat} {xs : List Value} (hs : a.eval sl = v) (hown : w.ownsRowF B 5 1 v n xs) (s : ByteArray) (hx : a.eval x = .string s)
    (hz : n + s.size ≤ 2000000000) (hB : B ≤ w.heap.size)
    (h : ∀ v' w', w'.ownsRowF B 5 1 v' (n + s.size) (xs ++ Lib.strCells s) → w.grownBy w' v.ownBlock → (v' = .slice none 0 0 ↔ v = .slice none 0 0 ∧ s.size = 0) → (∀ k, v'.ownBlock = some k → v.ownBlock = some k ∨ w.heap.size ≤ k) → wpList Tryd.prog ops Q rest (a.put o.dst v') w') : wpList Tryd.prog ops Q (o :: rest) a w := by
  refine wpList_plain hgd fun K hK => ?_
  obtain ⟨v', w', hr, h2, h3, h4, h5⟩ := append_text w B o.type v n xs hown s hz hB
  unfold Oper.wp execOp
  simp only [ho, resolve, invoke, builtin, Sem.run_bind, Sem.run_pure, Result.andThen_ok, List.map_toArray, List.map_cons, List.map_nil, hs, hx, hr]
  exact hK _ _ (h v' w' h2 h3 h4 h5)
set_option maxHeartbeats 2000000 in
set_option maxRecDepth 100000 in
theorem write_any {B g n : Nat} {t : Nat → ByteArray} {V : Nat → Value} {w : World} (h : Blds B g n t V w) {i o : Nat} (hi : i < n) (ho : o = 2 * i) (s : ByteArray) (hz : (t i).size + s.size ≤ 1000000000) :
    Calls Tryd.prog 22 #[.pointer (some ⟨g, o, none⟩), .string s] w fun e w' => (∃ v, e = .returned v) ∧ (∃ V', Blds B g n (upd t i (t i ++ s)) V' w') ∧ Below B w w' ∧ Lib.OthersKept 5 (some g) w w' := by
  have hCC := copyCheck_any h hi ho
  have HO := Lib.hid ho
  clear ho
  have hBw : B ≤ w.heap.size := Nat.le_trans h.lo (Nat.le_of_lt h.lt)
  clear h
  go_enter Tryd.func22, Tryd.ntmps22
  go_wp2_with fail
  refine hCC.mono ?_
  clear hCC
  rintro e w1 ⟨rfl, h1, hb1, hk1⟩
  obtain ⟨_, c1, _, _, _⟩ := bld_cell h1 hi
  rw [← HO.out] at c1
  have hown := h1.own i hi
  have hB1 : B ≤ w1.heap.size := Nat.le_trans hBw hb1.size
  have HH := Lib.hid h1
  have HB1 := Lib.hid hb1
  have HK1 := Lib.hid hk1
  clear h1 hb1 hk1
  go_wp2_with (at_builtin; refine bld_append rfl _ _ rfl B rfl hown s rfl (by omega) hB1 ?_)
  intro v' w2 hown2 hgrow hnil hblk
  rw [← strs_app, ← app_size'] at hown2
  have d1 : w2.cell? ⟨g, o + 1, none⟩ = some (V i) := hgrow.cell c1 (fun e => HH.out.ne hi e.symm)
  have hg2 : w2.heap[g]? = w1.heap[g]? := hgrow.block g HH.out.lt (fun e => HH.out.ne hi e.symm)
  have f1 : w2.frozen? ⟨g, o + 1, none⟩ = false := by
    rw [World.frozen?_of_block (w := w1) (w' := w2) (a := ⟨g, o + 1, none⟩) hg2, HO.out]
    exact (bld_cell HH.out hi).2.2.2.1
  obtain ⟨ao, n', cap, rfl⟩ : ∃ ao n' cap, v' = .slice ao n' cap := by
    rcases hown2.2 with ⟨hv, _⟩ | ⟨g, cap, cur, fz, hv, _⟩
    · exact ⟨_, _, _, hv⟩
    · exact ⟨_, _, _, hv⟩
  have hne : (t i ++ s).size = 0 → Value.slice ao n' cap = .slice none 0 0 := fun e => by
    rw [app_size'] at e
    have e1 : (t i).size = 0 := Nat.eq_zero_of_add_eq_zero_right e
    exact hnil.2 ⟨HH.out.nil i hi e1, ByteArray.size_eq_zero_iff.1 (Nat.eq_zero_of_add_eq_zero_left e)⟩
  have HP := Lib.hid (HH.out.put hi hgrow hown2 hne hblk)
  rw [← HO.out] at HP
  have HB2 := Lib.hid ((HB1.out.grown hgrow hB1 (fun k hk => ((HH.out.own i hi).lt k hk).1)).setCell (p := ⟨g, o + 1, none⟩) HH.out.lo (.slice ao n' cap))
  have HK2 := Lib.hid ((HK1.out.grown hgrow (Lib.ownsRowF_kind (HH.out.own i hi))).setCell ⟨g, o + 1, none⟩ rfl (.slice ao n' cap))
  clear hne hown hown2 hgrow hnil hblk hg2 c1
  go_wp2_with fail
  go_ret2
  exact ⟨⟨_, rfl⟩, ⟨_, HP.out⟩, HB2.out, HK2.out⟩
set_option maxHeartbeats 2000000 in
set_option maxRecDepth 100000 in
/-- String: the text; all that stands stands still. -/
theorem text_any {B g n : Nat} {t : Nat → ByteArray} {V : Nat → Value} {w : World} (h : Blds B g n t V w) {i o : Nat} (hi : i < n) (ho : o = 2 * i) (hz : (t i).size ≤ 2000000000) :
    Calls Tryd.prog 23 #[.pointer (some ⟨g, o, none⟩)] w fun e w' => e = .returned (.string (t i)) ∧ Blds B g n t V w' ∧ Below B w w' ∧ Lib.OthersKept 5 (some g) w w' := by
  obtain ⟨_, c1, _, _, _⟩ := bld_cell h hi
  rw [← ho] at c1
  by_cases h0 : (t i).size = 0
  · have hv := h.nil i hi h0
    rw [hv] at c1
    have ht : t i = ByteArray.empty := ByteArray.size_eq_zero_iff.1 h0
    have HT := Lib.hid (show Ending.returned (.string ByteArray.empty) = .returned (.string (t i)) from by rw [ht])
    have hUS : ∀ q : Option Addr, (Builtin.unsafeString_ #[58, 3] 9 #[.pointer q, .int .i64 0]).run Tryd.prog w.drew = .ok (.string .empty) w.drew := fun q => Lib.run_unsafeString_none w.drew _ _ _ q
    have hSD : (Builtin.unsafeSliceData_ #[40] 58 #[.slice none 0 0]).run Tryd.prog w.drew = .ok (.pointer none) w.drew := rfl
    have HH := Lib.hid h.drew
    clear h hv h0 ht ho
    go_enter Tryd.func23, Tryd.ntmps23
    go_wp2
    go_region
    all_goals (go_wp2; go_ret; exact ⟨HT.out, HH.out, Below.drew (Below.refl B w), (Lib.OthersKept.refl _ _ w).drew⟩)
  · obtain ⟨k, cap, cur, fz, hv, hbg, hg, hfz, hnc, hcm, hcs, htake⟩ : ∃ k cap cur fz, V i = .slice (some ⟨k, 0, none⟩) (t i).size cap ∧ B ≤ k ∧ w.heap[k]? = some (.cells cur 5 fz) ∧ fz.2 ≤ (t i).size * 1 ∧ (t i).size ≤ cap ∧ cap ≤ maxLen ∧ cur.size = cap * 1 ∧ cur.toList.take ((t i).size * 1) = Lib.strCells (t i) := by
      rcases (h.own i hi).2 with ⟨_, q⟩ | ⟨k, cap, cur, fz, hv, r⟩
      · exact absurd q h0
      · exact ⟨k, cap, cur, fz, hv, r⟩
    rw [hv] at c1
    have hl : (t i).data.toList.length = (t i).size := size_list _
    have hSD : (Builtin.unsafeSliceData_ #[40] 58 #[.slice (some ⟨k, 0, none⟩) (t i).size cap]).run Tryd.prog w.drew = .ok (.pointer (some ⟨k, 0, none⟩)) w.drew := Lib.run_unsafeSliceData_row _ _ _ _ _ _ (by omega)
    have hUS : (Builtin.unsafeString_ #[58, 3] 9 #[.pointer (some ⟨k, 0, none⟩), .int .i64 ((t i).size : Int)]).run Tryd.prog w.drew = .ok (.string (t i)) (w.drew.freeze ⟨k, 0, none⟩ (t i).size) := by
      have := Lib.run_unsafeString_row (P := Tryd.prog) w.drew 58 3 9 5 Tryd.underlying58 cellsByte k cur.size (by have hg' : w.drew.heap[k]? = some (.cells cur 5 fz) := hg; simp [World.shape?, hg']) (t i).data.toList (by intro e; rw [e] at hl; exact h0 hl.symm) (by omega) (by unfold maxLen at hcm; omega) (by
        intro j x hx
        have := (h.own i hi).cells (g := k) (by rw [hv]; rfl) j (.int .u8 x.toNat) (by rw [Lib.strCells_eq]; simp [Lib.byteCells, hx])
        exact this)
      rw [hl] at this
      exact this
    have HH := Lib.hid (h.drew.frozen hi hv)
    have HB := Lib.hid (Lib.below_freeze (Below.drew (Below.refl B w)) (p := ⟨k, 0, none⟩) hbg (t i).size)
    have HK := Lib.hid (((Lib.OthersKept.refl 5 (some g) w).drew).freeze ⟨k, 0, none⟩ (t i).size ⟨cur, fz, hg⟩)
    clear h hv h0 ho hbg hg hfz hnc hcm hcs htake hl
    generalize hS : t i = S at *
    go_enter Tryd.func23, Tryd.ntmps23
    go_wp2
    go_region
    all_goals (go_wp2; go_ret; exact ⟨rfl, HH.out, HB.out, HK.out⟩)
theorem Blds.reset {B g n : Nat} {t : Nat → ByteArray} {V : Nat → Value} {W : World} (h : Blds B g n t V W) {i : Nat} (hi : i < n) : Blds B g n (upd t i ByteArray.empty) (upd V i (.slice none 0 0)) ((W.setCell ⟨g, 2 * i, none⟩ (.pointer none)).setCell ⟨g, 2 * i + 1, none⟩ (.slice none 0 0)) := by
  have h1 : Blds B g n t V (W.setCell ⟨g, 2 * i, none⟩ (.pointer none)) := by
    obtain ⟨cs, h1, h2, h3⟩ := h.blk
    refine ⟨h.lo, ⟨_, set_block h1 _, by rw [Array.size_setIfInBounds]; exact h2, fun j hj => ?_⟩, fun j hj => bld_store h _ _ hj, h.nil, h.apart⟩
    obtain ⟨q1, q2⟩ := h3 j hj
    rw [Array.getElem?_setIfInBounds, Array.getElem?_setIfInBounds]
    by_cases q : 2 * i = 2 * j
    · rw [if_pos q, if_pos (by omega), if_neg (by omega)]
      exact ⟨.inl rfl, q2⟩
    · rw [if_neg q, if_neg (by omega)]
      exact ⟨q1, q2⟩
  exact h1.put hi ⟨rfl, rfl, rfl, Nat.le_refl _, fun _ _ _ => rfl⟩ (World.ownsRowF_nil _ _ _ _) (fun _ => rfl) (fun k hk => by cases hk)
set_option maxHeartbeats 2000000 in
theorem reset_any {B g n : Nat} {t : Nat → ByteArray} {V : Nat → Value} {w : World} (h : Blds B g n t V w) {i o : Nat} (hi : i < n) (ho : o = 2 * i) :
    Calls Tryd.prog 24 #[.pointer (some ⟨g, o, none⟩)] w fun e w' => e = .returned (.tuple #[]) ∧ (∃ V', Blds B g n (upd t i ByteArray.empty) V' w') ∧ Below B w w' ∧ Lib.OthersKept 5 (some g) w w' := by
  obtain ⟨c0, c1, f0, f1, _⟩ := bld_cell h hi
  have HR := Lib.hid (h.reset hi)
  have HB := Lib.hid (((Below.refl B w).setCell (p := ⟨g, 2 * i, none⟩) h.lo (.pointer none)).setCell (p := ⟨g, 2 * i + 1, none⟩) h.lo (.slice none 0 0))
  have HK := Lib.hid (((Lib.OthersKept.refl 5 (some g) w).setCell ⟨g, 2 * i, none⟩ rfl (.pointer none)).setCell ⟨g, 2 * i + 1, none⟩ rfl (.slice none 0 0))
  obtain ⟨v0, c0⟩ : ∃ v, w.cell? ⟨g, 2 * i, none⟩ = some v := c0.elim (fun q => ⟨_, q⟩) (fun q => ⟨_, q⟩)
  clear h
  rw [← ho] at *
  clear ho
  go_enter Tryd.func24, Tryd.ntmps24
  go_wp2
  go_end0
  exact ⟨rfl, ⟨_, HR.out⟩, HB.out, HK.out⟩
end Go.Proofs.YtemnbleacjpfcaaDoor.B
