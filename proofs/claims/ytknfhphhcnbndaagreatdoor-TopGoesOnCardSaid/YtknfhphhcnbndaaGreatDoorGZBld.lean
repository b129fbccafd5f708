/-
  Rows of strings.Builders that a call has made, and a builder alone: what WriteString, Reset and String do to one of them. Conditions: texts of at most 1000000000 bytes.
  A strings.Builder that is a field of a struct which a call has made: what WriteString, WriteByte and String do to it. Conditions: texts of at most 1000000000 bytes.
-/
import Derived.Test.YtknfhphhcnbndaaGreatDoorGPut
import Derived.Lib.FrozenHead2
import Derived.Laws.Externs
import Derived.RegionTactic
import Derived.ChangeAlike
set_option linter.unusedVariables false
set_option linter.unusedSimpArgs false
namespace Go.Proofs.YtknfhphhcnbndaaGreatDoor.B
open Go.RowKit

theorem infoByte : (Tryz.prog.info? 5).map (fun i => (i.zero, i.size, i.bytes)) = some (some (.int .u8 0), 1, 1) := by kernel_rfl
theorem cellsByte : Tryz.prog.cellsOf 5 = 1 := by kernel_rfl
theorem sizeBld : (Tryz.prog.info? 124).map (·.size) = some 2 := by kernel_rfl
/-! ### appending a text, and where it lies behind it -/
theorem grown_freeze (w : World) (p : Addr) (n : Nat) : w.grownBy (w.freeze p n) (some p.block) := by
  unfold World.freeze
  split
  · exact ⟨rfl, rfl, rfl, Nat.le_refl _, fun _ _ _ => rfl⟩
  · refine ⟨rfl, rfl, rfl, by simp, fun k _ hk => ?_⟩
    simp only [Array.getElem?_modify]
    rw [if_neg fun e => hk (by rw [e])]
theorem ownF_freeze {w : World} {B g n cap : Nat} {e : TypeId} {xs : List Value} (h : w.ownsRowF B e 1 (.slice (some ⟨g, 0, none⟩) n cap) n xs) : (w.freeze ⟨g, 0, none⟩ n).ownsRowF B e 1 (.slice (some ⟨g, 0, none⟩) n cap) n xs := by
  unfold World.freeze
  split
  · exact h
  · refine ⟨h.1, ?_⟩
    rcases h.2 with ⟨hv, _⟩ | ⟨g', cap', cur, fz, hv, hb, hg, hfz, rest⟩
    · cases hv
    · simp only [Value.slice.injEq, Option.some.injEq, Addr.mk.injEq] at hv
      obtain ⟨⟨rfl, _, _⟩, _, rfl⟩ := hv
      obtain ⟨lo, hi⟩ := fz
      refine .inr ⟨g, cap, cur, (if lo == hi then (0, 0 + n) else (min lo 0, max hi (0 + n))), rfl, hb, by simp [Array.getElem?_modify, hg], ?_, rest⟩
      simp only at hfz
      split <;> simp <;> omega
theorem append_text (w : World) (B : Nat) (ty : TypeId) (v : Value) (n : Nat) (xs : List Value) (hown : w.ownsRowF B 5 1 v n xs) (s : ByteArray) (hz : n + s.size ≤ 2000000000) (hB : B ≤ w.heap.size) :
    ∃ v' w', (Builtin.append_ #[122, 9] ty #[v, .string s]).run Tryz.prog w = .ok v' w' ∧ w'.ownsRowF B 5 1 v' (n + s.size) (xs ++ Lib.strCells s) ∧ w.grownBy w' v.ownBlock ∧
      (v' = .slice none 0 0 ↔ v = .slice none 0 0 ∧ s.size = 0) ∧ ∀ k, v'.ownBlock = some k → v.ownBlock = some k ∨ w.heap.size ≤ k := by
  obtain ⟨i0, hi, hz0, hz1, hz2⟩ := info_parts infoByte
  have hmx : n + s.size ≤ maxLen := by unfold maxLen; omega
  obtain ⟨v', w', hr, h2, h3, h4⟩ := Lib.run_append_own_stringF (P := Tryz.prog) w B 122 9 ty 5 i0 Tryz.underlying122 Tryz.underlying9 hi hz0 hz1 hz2 v n xs hown s hmx (by omega) hB
  refine ⟨v', w', hr, h2, h3, h4, fun k hk => ?_⟩
  rcases hown.2 with ⟨rfl, rfl⟩ | ⟨g, cap, cur, fz, rfl, hbg, hg, hfz, hnc, hcm, hcs, htake⟩
  · have hx : xs = [] := List.eq_nil_of_length_eq_zero (by rw [hown.1])
    subst hx
    obtain ⟨v2, w2, hr2, q2, _⟩ := Lib.run_append_own_stringF (P := Tryz.prog) w w.heap.size 122 9 ty 5 i0 Tryz.underlying122 Tryz.underlying9 hi hz0 hz1 hz2 _ 0 [] (World.ownsRowF_nil w _ _ _) s hmx (by omega) (Nat.le_refl _)
    rw [hr] at hr2
    simp only [Result.ok.injEq] at hr2
    obtain ⟨rfl, rfl⟩ := hr2
    exact .inr (q2.lt k hk).1
  · by_cases hroom : n + s.size ≤ cap
    · have hr2 := Lib.run_append_room_stringF (P := Tryz.prog) w 122 9 ty 5 i0 Tryz.underlying122 Tryz.underlying9 hi hz1 g n cap cur fz hg (by omega) s hroom (by omega)
      rw [hr] at hr2
      simp only [Result.ok.injEq] at hr2
      left
      rw [hr2.1] at hk
      exact hk
    · have hr2 := Lib.run_append_grow_string (P := Tryz.prog) w 122 9 ty 5 i0 (.int .u8 0) Tryz.underlying122 Tryz.underlying9 hi hz0 ⟨g, 0, none⟩ n cap xs (by rw [hz1]; exact hown.1) (hown.cells (g := g) rfl) s (by omega) (by omega) (by rw [hz2]; exact growslice_fits (by omega) (by omega))
      rw [hr] at hr2
      simp only [Result.ok.injEq] at hr2
      right
      rw [hr2.1] at hk
      have : w.heap.size = k := Option.some.inj hk
      omega

/-! ### builders in a row -/
theorem set_block {W : World} {g a : Nat} {cs : Array Value} {T : TypeId} (h : W.heap[g]? = some (.cells cs T (0, 0))) (v : Value) : (W.setCell ⟨g, a, none⟩ v).heap[g]? = some (.cells (cs.setIfInBounds a v) T (0, 0)) := heap_setCell_same W g a cs T v h
/-! ### the methods -/
theorem strC_app (a b : ByteArray) : Lib.strCells (a ++ b) = Lib.strCells a ++ Lib.strCells b := by
  unfold Lib.strCells
  simp
theorem app_size' (a b : ByteArray) : (a ++ b).size = a.size + b.size := by
  rw [← size_list, ← size_list a, ← size_list b]
  simp
/-- The step 'b.buf = append(b.buf, s...)', for the walk. -/
theorem bld_append {ops : Array Oper} {rest : List Oper} {o : Oper} {a : Act} {Q : Exit → Act → World → Prop} {w : World} (hgd : o.guard = none) (sl x : Operand)
    (ho : o.op = .call { callee := .builtin .append, args := #[sl, x], argTypes := #[122, 9] }) (B : Nat) {v : Value} {n : Nat} {xs : List Value} (hs : a.eval sl = v) (hown : w.ownsRowF B 5 1 v n xs) (s : ByteArray) (hx : a.eval x = .string s)
    (hz : n + s.size ≤ 2000000000) (hB : B ≤ w.heap.size)
    (h : ∀ v' w', w'.ownsRowF B 5 1 v' (n + s.size) (xs ++ Lib.strCells s) → w.grownBy w' v.ownBlock → (v' = .slice none 0 0 ↔ v = .slice none 0 0 ∧ s.size = 0) → (∀ k, v'.ownBlock = some k → v.ownBlock = some k ∨ w.heap.size ≤ k) → wpList Tryz.prog ops Q rest (a.put o.dst v') w') : wpList Tryz.prog ops Q (o :: rest) a w := by
  refine wpList_plain hgd fun K hK => ?_
  obtain ⟨v', w', hr, h2, h3, h4, h5⟩ := append_text w B o.type v n xs hown s hz hB
  unfold Oper.wp execOp
  simp only [ho, resolve, invoke, builtin, Sem.run_bind, Sem.run_pure, Result.andThen_ok, List.map_toArray, List.map_cons, List.map_nil, hs, hx, hr]
  exact hK _ _ (h v' w' h2 h3 h4 h5)
end Go.Proofs.YtknfhphhcnbndaaGreatDoor.B

namespace Go.Proofs.YtknfhphhcnbndaaGreatDoor.Z
open Go.Proofs.YtknfhphhcnbndaaGreatDoor.B
open Go.RowKit

/-- In block g, a struct of type T whose cells are cs, a builder stands at o: it holds t, its buffer is v. -/
structure FB (T : TypeId) (B g o : Nat) (t : ByteArray) (v : Value) (cs : Array Value) (W : World) : Prop where
  lo : B ≤ g
  ty : T ≠ 5
  blk : W.heap[g]? = some (.cells cs T (0, 0))
  ptr : cs[o]? = some (.pointer none) ∨ cs[o]? = some (.pointer (some ⟨g, o, none⟩))
  buf : cs[o + 1]? = some v
  own : W.ownsRowF B 5 1 v t.size (Lib.strCells t)
  nil : t.size = 0 → v = .slice none 0 0
/-- What the builder's methods leave as it was: all but the struct, and its own buffer. -/
structure FrB (g : Nat) (v v' : Value) (w w' : World) : Prop where
  size : w.heap.size ≤ w'.heap.size
  oth : ∀ k, k < w.heap.size → k ≠ g → v.ownBlock ≠ some k → w'.heap[k]? = w.heap[k]?
  new : ∀ k, v'.ownBlock = some k → v.ownBlock = some k ∨ w.heap.size ≤ k
def Oth (o : Nat) (cs cs' : Array Value) : Prop := cs'.size = cs.size ∧ ∀ j, j ≠ o → j ≠ o + 1 → cs'[j]? = cs[j]?
theorem Oth.refl (o : Nat) (cs : Array Value) : Oth o cs cs := ⟨rfl, fun _ _ _ => rfl⟩
theorem Oth.trans {o : Nat} {a b c : Array Value} (h : Oth o a b) (k : Oth o b c) : Oth o a c := ⟨k.1.trans h.1, fun j h1 h2 => (k.2 j h1 h2).trans (h.2 j h1 h2)⟩
theorem FrB.refl (g : Nat) (v : Value) (w : World) : FrB g v v w w := ⟨Nat.le_refl _, fun _ _ _ _ => rfl, fun _ h => .inl h⟩
theorem FrB.trans {g : Nat} {a b c : Value} {w x y : World} (h : FrB g a b w x) (k : FrB g b c x y) : FrB g a c w y :=
  ⟨Nat.le_trans h.size k.size, fun i hi hg ha => by
    rw [k.oth i (Nat.lt_of_lt_of_le hi h.size) hg fun e => (h.new i e).elim ha fun q => by omega]
    exact h.oth i hi hg ha, fun i hi => (k.new i hi).elim (fun q => h.new i q) fun q => .inr (Nat.le_trans h.size q)⟩
section
variable {T : TypeId} {B g o : Nat} {t : ByteArray} {v : Value} {cs : Array Value} {W W' : World}
theorem FB.lt (h : FB T B g o t v cs W) : g < W.heap.size := heap_lt h.blk
theorem FB.ne (h : FB T B g o t v cs W) : v.ownBlock ≠ some g := Lib.ownBlock_neF h.own h.blk h.ty
theorem FB.olt (h : FB T B g o t v cs W) : o + 1 < cs.size := (Array.getElem?_eq_some_iff.1 h.buf).1
theorem FB.cells (h : FB T B g o t v cs W) : (W.cell? ⟨g, o, none⟩ = some (.pointer none) ∨ W.cell? ⟨g, o, none⟩ = some (.pointer (some ⟨g, o, none⟩))) ∧ W.cell? ⟨g, o + 1, none⟩ = some v ∧ W.frozen? ⟨g, o, none⟩ = false ∧ W.frozen? ⟨g, o + 1, none⟩ = false ∧ W.shape? g = some (T, cs.size) := by
  rw [Lib.cell_of_heap h.blk, Lib.cell_of_heap h.blk]
  exact ⟨h.ptr, h.buf, Lib.frozen_of_heap h.blk _, Lib.frozen_of_heap h.blk _, by simp [World.shape?, h.blk]⟩
theorem own_at {u : Value} {n : Nat} {xs : List Value} (q : W.ownsRowF B 5 1 u n xs) (hv : ∀ k, u.ownBlock = some k → W'.heap[k]? = W.heap[k]?) : W'.ownsRowF B 5 1 u n xs := by
  obtain ⟨q1, q2⟩ := q
  refine ⟨q1, ?_⟩
  rcases q2 with q2 | ⟨k, cap, cur, fz, hv2, hb, hk, rest⟩
  · exact .inl q2
  · exact .inr ⟨k, cap, cur, fz, hv2, hb, (hv k (by rw [hv2]; rfl)).trans hk, rest⟩
theorem FB.at_ (h : FB T B g o t v cs W) (hg : W'.heap[g]? = W.heap[g]?) (hv : ∀ k, v.ownBlock = some k → W'.heap[k]? = W.heap[k]?) : FB T B g o t v cs W' :=
  ⟨h.lo, h.ty, hg.trans h.blk, h.ptr, h.buf, own_at h.own hv, h.nil⟩
theorem FB.keep (h : FB T B g o t v cs W) (hb : Below W.heap.size W W') : FB T B g o t v cs W' :=
  h.at_ (hb.block g h.lt) fun k hk => hb.block k (h.own.lt k hk).2
theorem FB.drew (h : FB T B g o t v cs W) : FB T B g o t v cs W.drew := h.at_ rfl fun _ _ => rfl
/-- A store into the struct turns no buffer. -/
theorem FB.store (h : FB T B g o t v cs W) (a : Nat) (x : Value) : (W.setCell ⟨g, a, none⟩ x).ownsRowF B 5 1 v t.size (Lib.strCells t) :=
  own_at h.own fun k hk => Below.heap_setCell _ _ _ _ (fun e => h.ne (by rw [hk]; exact congrArg some e))
/-- A store into another field. -/
theorem FB.other (h : FB T B g o t v cs W) {a : Nat} (x : Value) (h1 : a ≠ o) (h2 : a ≠ o + 1) : FB T B g o t v (cs.setIfInBounds a x) (W.setCell ⟨g, a, none⟩ x) := by
  refine ⟨h.lo, h.ty, set_block h.blk x, ?_, ?_, h.store a x, h.nil⟩ <;> rw [Array.getElem?_setIfInBounds, if_neg (by assumption)]
  · exact h.ptr
  · exact h.buf
theorem FB.used (h : FB T B g o t v cs W) : FB T B g o t v (cs.setIfInBounds o (.pointer (some ⟨g, o, none⟩))) (W.setCell ⟨g, o, none⟩ (.pointer (some ⟨g, o, none⟩))) := by
  have hl := h.olt
  refine ⟨h.lo, h.ty, set_block h.blk _, .inr ?_, ?_, h.store _ _, h.nil⟩
  · rw [Array.getElem?_setIfInBounds, if_pos rfl, if_pos (by omega)]
  · rw [Array.getElem?_setIfInBounds, if_neg (by omega)]
    exact h.buf
theorem FB.put {v' : Value} {s : ByteArray} (h : FB T B g o t v cs W) (hg : W.grownBy W' v.ownBlock) (hown : W'.ownsRowF B 5 1 v' s.size (Lib.strCells s)) (hn : s.size = 0 → v' = .slice none 0 0) (hk : ∀ k, v'.ownBlock = some k → v.ownBlock = some k ∨ W.heap.size ≤ k) : FB T B g o s v' (cs.setIfInBounds (o + 1) v') (W'.setCell ⟨g, o + 1, none⟩ v') := by
  have hl := h.olt
  have hg2 : W'.heap[g]? = some (.cells cs T (0, 0)) := (hg.block g h.lt (fun e => h.ne e.symm)).trans h.blk
  have hv : v'.ownBlock ≠ some g := fun e => (hk g e).elim h.ne fun q => by have := h.lt; omega
  refine ⟨h.lo, h.ty, set_block hg2 _, ?_, ?_, own_at hown fun k hk2 => Below.heap_setCell _ _ _ _ (fun e => hv (by rw [hk2]; exact congrArg some e)), hn⟩
  · rw [Array.getElem?_setIfInBounds, if_neg (by omega)]
    exact h.ptr
  · rw [Array.getElem?_setIfInBounds, if_pos rfl, if_pos (by omega)]
theorem FB.oth (h : FB T B g o t v cs W) (hb : FrB g v v W W') : Lib.OthersKept 5 (some g) W W' := by
  intro k x hk hb2 hx
  rw [hb.oth k (heap_lt hk) (fun e => hb2 (by rw [e])) fun e => ?_]
  · exact hk
  · obtain ⟨c, fz, hc⟩ := Lib.ownsRowF_kind h.own k e
    rw [hk] at hc
    exact hx c fz (Option.some.inj hc)
theorem FrB.kept {v' : Value} (h : FB T B g o t v cs W) (hb : FrB g v v' W W') : Lib.OthersKept 5 (some g) W W' := by
  intro k x hk hb2 hx
  rw [hb.oth k (heap_lt hk) (fun e => hb2 (by rw [e])) fun e => ?_]
  · exact hk
  · obtain ⟨c, fz, hc⟩ := Lib.ownsRowF_kind h.own k e
    rw [hk] at hc
    exact hx c fz (Option.some.inj hc)
theorem oth_set (o : Nat) (cs : Array Value) (x : Value) : Oth o cs (cs.setIfInBounds o x) ∧ Oth o cs (cs.setIfInBounds (o + 1) x) :=
  ⟨⟨Array.size_setIfInBounds, fun j h1 h2 => by rw [Array.getElem?_setIfInBounds, if_neg (Ne.symm h1)]⟩, ⟨Array.size_setIfInBounds, fun j h1 h2 => by rw [Array.getElem?_setIfInBounds, if_neg (Ne.symm h2)]⟩⟩
theorem frb_set (w : World) (g a : Nat) (x v : Value) : FrB g v v w (w.setCell ⟨g, a, none⟩ x) :=
  ⟨by simp [World.setCell], fun k _ hk _ => Below.heap_setCell _ _ _ _ (fun e => hk e), fun _ h => .inl h⟩
theorem frb_grown {v v' : Value} {w w' : World} (g : Nat) (hg : w.grownBy w' v.ownBlock) (hk : ∀ k, v'.ownBlock = some k → v.ownBlock = some k ∨ w.heap.size ≤ k) : FrB g v v' w w' :=
  ⟨hg.size, fun k hk1 _ hk2 => hg.block k hk1 (fun e => hk2 e.symm), hk⟩
end

/-- append of one byte, and where the row lies behind it. -/
theorem append_byte (w : World) (B : Nat) (ty : TypeId) (v : Value) (n : Nat) (xs : List Value) (hown : w.ownsRowF B 5 1 v n xs) (a : Addr) (c : Int) (hc : w.cell? a = some (.int .u8 c)) (ha : a = ⟨a.block, 0, none⟩) (hz : n ≤ 2000000000) (hB : B ≤ w.heap.size) :
    ∃ v' w', (Builtin.append_ #[122, 122] ty #[v, .slice (some a) 1 1]).run Tryz.prog w = .ok v' w' ∧ w'.ownsRowF B 5 1 v' (n + 1) (xs ++ [.int .u8 c]) ∧ w.grownBy w' v.ownBlock ∧ ∀ k, v'.ownBlock = some k → v.ownBlock = some k ∨ w.heap.size ≤ k := by
  obtain ⟨i0, hi, hz0, hz1, hz2⟩ := info_parts infoByte
  have hmx : n + 1 ≤ maxLen := by unfold maxLen; omega
  have hnw : ∀ j u, [Value.int .u8 c][j]? = some u → w.cell? (a.add j) = some u := by
    intro j u hj
    match j, hj with
    | 0, hj => simp at hj; subst hj; rw [ha] at hc ⊢; exact hc
  have h1 : ∀ u ∈ [Value.int .u8 c], u.oneCell' = true := by intro u hu; simp at hu; subst hu; rfl
  obtain ⟨v', w', hr, h2, h3, h4⟩ := run_append_ownF (P := Tryz.prog) w B 122 ty 5 i0 (.int .u8 0) 1 1 Tryz.underlying122 hi hz0 hz1 hz2 rfl (by decide) v n xs hown a 1 1 [.int .u8 c] rfl hnw h1 hmx (by omega) hB
  refine ⟨v', w', hr, h2, h3, fun k hk => ?_⟩
  rcases hown.2 with ⟨rfl, rfl⟩ | ⟨g, cap, cur, fz, rfl, hbg, hg, hfz, hnc, hcm, hcs, htake⟩
  · have hx : xs = [] := List.eq_nil_of_length_eq_zero (by rw [hown.1])
    subst hx
    obtain ⟨v2, w2, hr2, q2, _⟩ := run_append_ownF (P := Tryz.prog) w w.heap.size 122 ty 5 i0 (.int .u8 0) 1 1 Tryz.underlying122 hi hz0 hz1 hz2 rfl (by decide) _ 0 [] (World.ownsRowF_nil w _ _ _) a 1 1 [.int .u8 c] rfl hnw h1 hmx (by omega) (Nat.le_refl _)
    rw [hr] at hr2
    simp only [Result.ok.injEq] at hr2
    obtain ⟨rfl, rfl⟩ := hr2
    exact .inr (q2.lt k hk).1
  · by_cases hroom : n + 1 ≤ cap
    · have hr2 := run_append_roomF (P := Tryz.prog) w 122 ty 5 i0 Tryz.underlying122 hi g n cap cur fz hg (by rw [hz1]; exact hfz) a 1 1 [.int .u8 c] (by rw [hz1]; rfl) hnw h1 hroom (by rw [hz1]; simp; omega)
      rw [hr] at hr2
      simp only [Result.ok.injEq] at hr2
      left
      rw [hr2.1] at hk
      exact hk
    · have hr2 := run_append_grow (P := Tryz.prog) w 122 ty 5 i0 (.int .u8 0) Tryz.underlying122 hi hz0 ⟨g, 0, none⟩ n cap xs (by rw [hz1]; exact hown.1) (hown.cells (g := g) rfl) a 1 1 [.int .u8 c] (by rw [hz1]; rfl) hnw (by omega) (by omega) (by rw [hz2]; exact growslice_fits (by omega) (by omega))
      rw [hr] at hr2
      simp only [Result.ok.injEq] at hr2
      right
      rw [hr2.1] at hk
      have : w.heap.size = k := Option.some.inj hk
      omega
theorem byte_append {ops : Array Oper} {rest : List Oper} {o : Oper} {a : Act} {Q : Exit → Act → World → Prop} {w : World} (hgd : o.guard = none) (sl x : Operand)
    (ho : o.op = .call { callee := .builtin .append, args := #[sl, x], argTypes := #[122, 122] }) (B : Nat) {v : Value} {n : Nat} {xs : List Value} (hs : a.eval sl = v) (hown : w.ownsRowF B 5 1 v n xs) (g : Nat) (c : Int) (hx : a.eval x = .slice (some ⟨g, 0, none⟩) 1 1) (hc : w.cell? ⟨g, 0, none⟩ = some (.int .u8 c))
    (hz : n ≤ 2000000000) (hB : B ≤ w.heap.size)
    (h : ∀ v' w', w'.ownsRowF B 5 1 v' (n + 1) (xs ++ [.int .u8 c]) → w.grownBy w' v.ownBlock → (∀ k, v'.ownBlock = some k → v.ownBlock = some k ∨ w.heap.size ≤ k) → wpList Tryz.prog ops Q rest (a.put o.dst v') w') : wpList Tryz.prog ops Q (o :: rest) a w := by
  refine wpList_plain hgd fun K hK => ?_
  obtain ⟨v', w', hr, h2, h3, h5⟩ := append_byte w B o.type v n xs hown _ c hc rfl hz hB
  unfold Oper.wp execOp
  simp only [ho, resolve, invoke, builtin, Sem.run_bind, Sem.run_pure, Result.andThen_ok, List.map_toArray, List.map_cons, List.map_nil, hs, hx, hr]
  exact hK _ _ (h v' w' h2 h3 h5)
/-- Where in such a struct a builder may stand. -/
def LieB (T : TypeId) (n o : Nat) : Prop := liesAt Tryz.prog Tryz.prog.depth T (n / Tryz.prog.cellsOf T) o 124 1 = true
def AtB (T : TypeId) (B g o : Nat) (t : ByteArray) (v : Value) (cs : Array Value) (w w' : World) : Prop := ∃ v' cs', FB T B g o t v' cs' w' ∧ Oth o cs cs' ∧ FrB g v v' w w' ∧ Below B w w'
section
variable {T : TypeId} {B g o : Nat} {t : ByteArray} {v : Value} {cs : Array Value} {w : World}
set_option maxHeartbeats 2000000 in
set_option maxRecDepth 100000 in
theorem fcopy_any (h : FB T B g o t v cs w) (hl : LieB T cs.size o) :
    Calls Tryz.prog 177 #[.pointer (some ⟨g, o, none⟩)] w fun e w' => e = .returned (.tuple #[]) ∧ ∃ cs', FB T B g o t v cs' w' ∧ Oth o cs cs' ∧ FrB g v v w w' ∧ Below B w w' := by
  obtain ⟨j, hj, hjs⟩ := Option.map_eq_some_iff.1 sizeBld
  obtain ⟨hp, _, hf, _, hsh⟩ := h.cells
  have HU := Lib.hid h.used
  have HH := Lib.hid h
  have hlt : o < cs.size := by have := h.olt; omega
  have HL := Lib.hid hl
  have HB := Lib.hid ((Below.refl B w).setCell (p := ⟨g, o, none⟩) h.lo (.pointer (some ⟨g, o, none⟩)))
  have HO := Lib.hid (oth_set o cs (.pointer (some ⟨g, o, none⟩))).1
  clear h hl
  rcases hp with hp | hp
  · go_enter Tryz.func177, Tryz.ntmps177
    go_wp2
    rw [Lib.run_to_unsafe w ⟨g, o, none⟩ Tryz.underlying121 Tryz.underlying319 hj (by rw [hjs]; decide) hsh hlt]
    simp only [Result.andThen]
    rw [Oper.upon_value]
    go_wp2
    rw [run_callFunc_extern Tryz.func231 (by kernel_rfl) (by kernel_rfl) (by kernel_rfl) (e := Extern.AbiNoEscape.same) (by kernel_rfl)]
    rw [Lib.run_noEscape]
    simp only [Result.andThen]
    rw [Oper.upon_value]
    go_wp2
    rw [Lib.run_from_unsafe w ⟨g, o, none⟩ Tryz.underlying319 Tryz.underlying121 hj hsh HL.out]
    simp only [Result.andThen]
    rw [Oper.upon_value]
    go_wp2
    go_end0
    exact ⟨rfl, _, HU.out, HO.out, frb_set _ _ _ _ _, HB.out⟩
  · go_enter Tryz.func177, Tryz.ntmps177
    go_wp2
    rw [Lib.run_neq_ptr_same w _ Tryz.underlying121 hj]
    go_wp2
    go_end0
    exact ⟨rfl, _, HH.out, Oth.refl _ _, FrB.refl _ _ _, Below.refl B _⟩
set_option maxHeartbeats 2000000 in
set_option maxRecDepth 100000 in
theorem fwrite_any (h : FB T B g o t v cs w) (hl : LieB T cs.size o) (s : ByteArray) (hz : t.size + s.size ≤ 1000000000) :
    Calls Tryz.prog 121 #[.pointer (some ⟨g, o, none⟩), .string s] w fun e w' => (∃ u, e = .returned u) ∧ AtB T B g o (t ++ s) v cs w w' := by
  have hCC := fcopy_any h hl
  have hBw : B ≤ w.heap.size := Nat.le_trans h.lo (Nat.le_of_lt h.lt)
  clear h hl
  go_enter Tryz.func121, Tryz.ntmps121
  go_wp2_with fail
  refine hCC.mono ?_
  clear hCC
  rintro e w1 ⟨rfl, cs1, h1, ho1, hk1, hb1⟩
  obtain ⟨_, c1, _, _, _⟩ := h1.cells
  have hown := h1.own
  have hB1 : B ≤ w1.heap.size := Nat.le_trans hBw hb1.size
  have HH := Lib.hid h1
  have HB1 := Lib.hid hb1
  have HK1 := Lib.hid hk1
  have HO1 := Lib.hid ho1
  clear h1 hb1 hk1 ho1
  go_wp2_with (at_builtin; refine bld_append rfl _ _ rfl B rfl hown s rfl (by omega) hB1 ?_)
  intro v' w2 hown2 hgrow hnil hblk
  rw [← strC_app, ← app_size'] at hown2
  have d1 : w2.cell? ⟨g, o + 1, none⟩ = some v := hgrow.cell c1 (fun e => HH.out.ne e.symm)
  have hg2 : w2.heap[g]? = w1.heap[g]? := hgrow.block g HH.out.lt (fun e => HH.out.ne e.symm)
  have f1 : w2.frozen? ⟨g, o + 1, none⟩ = false := by
    rw [World.frozen?_of_block (w := w1) (w' := w2) (a := ⟨g, o + 1, none⟩) hg2]
    exact HH.out.cells.2.2.2.1
  obtain ⟨ao, n', cap, rfl⟩ : ∃ ao n' cap, v' = .slice ao n' cap := by
    rcases hown2.2 with ⟨hv, _⟩ | ⟨g, cap, cur, fz, hv, _⟩
    · exact ⟨_, _, _, hv⟩
    · exact ⟨_, _, _, hv⟩
  have hne : (t ++ s).size = 0 → Value.slice ao n' cap = .slice none 0 0 := fun e => by
    rw [app_size'] at e
    have e1 : t.size = 0 := Nat.eq_zero_of_add_eq_zero_right e
    exact hnil.2 ⟨HH.out.nil e1, ByteArray.size_eq_zero_iff.1 (Nat.eq_zero_of_add_eq_zero_left e)⟩
  have HP := Lib.hid (HH.out.put hgrow hown2 hne hblk)
  have HB2 := Lib.hid ((HB1.out.grown hgrow hB1 (fun k hk => (HH.out.own.lt k hk).1)).setCell (p := ⟨g, o + 1, none⟩) HH.out.lo (.slice ao n' cap))
  have HK2 := Lib.hid ((HK1.out.trans (frb_grown g hgrow hblk)).trans (frb_set w2 g (o + 1) (.slice ao n' cap) (.slice ao n' cap)))
  have HO2 := Lib.hid (HO1.out.trans (oth_set o cs1 (.slice ao n' cap)).2)
  clear hne hown hown2 hgrow hnil hblk hg2 c1
  go_wp2_with fail
  go_ret2
  exact ⟨⟨_, rfl⟩, _, _, HP.out, HO2.out, HK2.out, HB2.out⟩
set_option maxHeartbeats 2000000 in
set_option maxRecDepth 100000 in
theorem fbyte_any (h : FB T B g o t v cs w) (hl : LieB T cs.size o) (c : UInt8) (n : Int) (hn : n = (c.toNat : Int)) (hz : t.size ≤ 1000000000) :
    Calls Tryz.prog 123 #[.pointer (some ⟨g, o, none⟩), .int .u8 n] w fun e w' => (∃ u, e = .returned u) ∧ AtB T B g o (t ++ ⟨#[c]⟩) v cs w w' := by
  subst hn
  obtain ⟨i0, hi, hz0, hz1, hz2⟩ := info_parts infoByte
  have hCC := fcopy_any h hl
  have hBw : B ≤ w.heap.size := Nat.le_trans h.lo (Nat.le_of_lt h.lt)
  clear h hl
  go_enter Tryz.func123, Tryz.ntmps123
  go_wp2_with fail
  refine hCC.mono ?_
  clear hCC
  rintro e w1 ⟨rfl, cs1, h1, ho1, hk1, hb1⟩
  obtain ⟨_, c1, _, _, _⟩ := h1.cells
  have hown := h1.own
  have hB1 : B ≤ w1.heap.size := Nat.le_trans hBw hb1.size
  have HH := Lib.hid h1
  have HB1 := Lib.hid hb1
  have HK1 := Lib.hid hk1
  have HO1 := Lib.hid ho1
  have hlt := h1.lt
  clear h1 hb1 hk1 ho1
  have HA := Lib.hid (HH.out.keep ((Below.refl _ _).alloc (Nat.le_refl _) (.cells #[.int .u8 c.toNat] 5)))
  have HBA := Lib.hid (HB1.out.alloc hB1 (.cells #[.int .u8 c.toNat] 5))
  have HKA := Lib.hid (show FrB g v v w1 (w1.alloc (.cells #[.int .u8 c.toNat] 5)) from ⟨by simp, fun k hk _ _ => heap_alloc_old _ _ hk, fun _ q => .inl q⟩)
  have hcl : (w1.alloc (.cells #[.int .u8 c.toNat] 5)).cell? ⟨w1.heap.size, 0, none⟩ = some (.int .u8 c.toNat) := by rw [cell_of_row _ _ _ _ _ _ (heap_alloc_new _ _)]; rfl
  have hB2 : B ≤ (w1.alloc (.cells #[.int .u8 c.toNat] 5)).heap.size := Nat.le_trans hB1 (by simp)
  go_wp2_with (at_builtin; refine byte_append rfl _ _ rfl B rfl HA.out.own w1.heap.size c.toNat rfl hcl (by omega) hB2 ?_)
  intro v' w2 hown2 hgrow hblk
  replace hblk : ∀ k, v'.ownBlock = some k → v.ownBlock = some k ∨ (w1.alloc (.cells #[.int .u8 c.toNat] 5)).heap.size ≤ k := fun k hk => (hblk k hk).imp id fun q => by simpa using q
  generalize w1.alloc (.cells #[.int .u8 c.toNat] 5) = w1a at HA HBA HKA hgrow hblk hB2
  have hsz : (t ++ ⟨#[c]⟩ : ByteArray).size = t.size + 1 := app_size' _ _
  have hown3 : w2.ownsRowF B 5 1 v' (t ++ ⟨#[c]⟩ : ByteArray).size (Lib.strCells (t ++ ⟨#[c]⟩)) := by rw [hsz, strC_app]; exact hown2
  have d1 : w2.cell? ⟨g, o + 1, none⟩ = some v := hgrow.cell HA.out.cells.2.1 (fun e => HA.out.ne e.symm)
  have hg2 : w2.heap[g]? = w1a.heap[g]? := hgrow.block g HA.out.lt (fun e => HA.out.ne e.symm)
  have f1 : w2.frozen? ⟨g, o + 1, none⟩ = false := by
    rw [World.frozen?_of_block (w := w1a) (w' := w2) (a := ⟨g, o + 1, none⟩) hg2]
    exact HA.out.cells.2.2.2.1
  obtain ⟨ao, n', cap, rfl⟩ : ∃ ao n' cap, v' = .slice ao n' cap := by
    rcases hown2.2 with ⟨hv, _⟩ | ⟨g, cap, cur, fz, hv, _⟩
    · exact ⟨_, _, _, hv⟩
    · exact ⟨_, _, _, hv⟩
  have HP := Lib.hid (HA.out.put hgrow hown3 (fun e => by omega) hblk)
  have HB2 := Lib.hid ((HBA.out.grown hgrow hB2 (fun k hk => (HA.out.own.lt k hk).1)).setCell (p := ⟨g, o + 1, none⟩) HA.out.lo (.slice ao n' cap))
  have HK2 := Lib.hid (((HK1.out.trans HKA.out).trans (frb_grown g hgrow hblk)).trans (frb_set w2 g (o + 1) (.slice ao n' cap) (.slice ao n' cap)))
  have HO2 := Lib.hid (HO1.out.trans (oth_set o cs1 (.slice ao n' cap)).2)
  clear hown hown2 hown3 hgrow hblk hg2 c1 hcl HH hlt
  go_wp2_with fail
  go_ret
  exact ⟨⟨_, rfl⟩, _, _, HP.out, HO2.out, HK2.out, HB2.out⟩
set_option maxHeartbeats 2000000 in
set_option maxRecDepth 100000 in
/-- String: the text; all that stands stands still. -/
theorem ftext_any (h : FB T B g o t v cs w) (hz : t.size ≤ 2000000000) :
    Calls Tryz.prog 55 #[.pointer (some ⟨g, o, none⟩)] w fun e w' => e = .returned (.string t) ∧ FB T B g o t v cs w' ∧ FrB g v v w w' ∧ Below B w w' := by
  have c1 := h.cells.2.1
  by_cases h0 : t.size = 0
  · have hv := h.nil h0
    have HT := Lib.hid (show Ending.returned (.string ByteArray.empty) = .returned (.string t) from by rw [ByteArray.size_eq_zero_iff.1 h0])
    rw [hv] at c1
    have hUS : ∀ q : Option Addr, (Builtin.unsafeString_ #[199, 3] 9 #[.pointer q, .int .i64 0]).run Tryz.prog w.drew = .ok (.string .empty) w.drew := fun q => Lib.run_unsafeString_none w.drew _ _ _ q
    have hSD : (Builtin.unsafeSliceData_ #[122] 199 #[.slice none 0 0]).run Tryz.prog w.drew = .ok (.pointer none) w.drew := rfl
    have HH := Lib.hid h.drew
    clear h hv h0
    go_enter Tryz.func55, Tryz.ntmps55
    go_wp2
    go_region
    all_goals (go_wp2; go_ret; exact ⟨HT.out, HH.out, ⟨Nat.le_refl _, fun _ _ _ _ => rfl, fun _ h => .inl h⟩, Below.drew (Below.refl B w)⟩)
  · obtain ⟨k, cap, cur, fz, hv, hbg, hg, hfz, hnc, hcm, hcs, htake⟩ : ∃ k cap cur fz, v = .slice (some ⟨k, 0, none⟩) t.size cap ∧ B ≤ k ∧ w.heap[k]? = some (.cells cur 5 fz) ∧ fz.2 ≤ t.size * 1 ∧ t.size ≤ cap ∧ cap ≤ maxLen ∧ cur.size = cap * 1 ∧ cur.toList.take (t.size * 1) = Lib.strCells t := by
      rcases h.own.2 with ⟨_, q⟩ | ⟨k, cap, cur, fz, hv, r⟩
      · exact absurd q h0
      · exact ⟨k, cap, cur, fz, hv, r⟩
    rw [hv] at c1
    have hl : t.data.toList.length = t.size := size_list _
    have hSD : (Builtin.unsafeSliceData_ #[122] 199 #[.slice (some ⟨k, 0, none⟩) t.size cap]).run Tryz.prog w.drew = .ok (.pointer (some ⟨k, 0, none⟩)) w.drew := Lib.run_unsafeSliceData_row _ _ _ _ _ _ (by omega)
    have hUS : (Builtin.unsafeString_ #[199, 3] 9 #[.pointer (some ⟨k, 0, none⟩), .int .i64 (t.size : Int)]).run Tryz.prog w.drew = .ok (.string t) (w.drew.freeze ⟨k, 0, none⟩ t.size) := by
      have := Lib.run_unsafeString_row (P := Tryz.prog) w.drew 199 3 9 5 Tryz.underlying199 cellsByte k cur.size (by have hg' : w.drew.heap[k]? = some (.cells cur 5 fz) := hg; simp [World.shape?, hg']) t.data.toList (by intro e; rw [e] at hl; exact h0 hl.symm) (by omega) (by unfold maxLen at hcm; omega) (by
        intro j x hx
        exact h.own.cells (g := k) (by rw [hv]; rfl) j (.int .u8 x.toNat) (by rw [Lib.strCells_eq]; simp [Lib.byteCells, hx]))
      rw [hl] at this
      exact this
    have hgr := grown_freeze w.drew ⟨k, 0, none⟩ t.size
    have hgb : k ≠ g := fun e => h.ne (by rw [hv, ← e]; rfl)
    have HH := Lib.hid (show FB T B g o t v cs (w.drew.freeze ⟨k, 0, none⟩ t.size) from ⟨h.lo, h.ty, (hgr.block g h.lt (fun e => hgb (Option.some.inj e).symm)).trans h.blk, h.ptr, h.buf, by
      have := h.drew.own
      rw [hv] at this ⊢
      exact ownF_freeze this, h.nil⟩)
    have HK := Lib.hid (show FrB g v v w (w.drew.freeze ⟨k, 0, none⟩ t.size) from ⟨hgr.size, fun j hj _ hk => hgr.block j hj (fun e => hk (by rw [hv]; exact e.symm)), fun _ q => .inl q⟩)
    have HB := Lib.hid (Lib.below_freeze (Below.drew (Below.refl B w)) (p := ⟨k, 0, none⟩) hbg t.size)
    clear h h0 hbg hg hfz hnc hcm hcs htake hl hgr hgb
    generalize hS : t = S at *
    go_enter Tryz.func55, Tryz.ntmps55
    go_wp2
    go_region
    all_goals (go_wp2; go_ret; exact ⟨rfl, HH.out, HK.out, HB.out⟩)
end
end Go.Proofs.YtknfhphhcnbndaaGreatDoor.Z
