/-
  What the walk's steps that ask the file system do: whether a node is gone into, the next entry; an entry's whole name. Conditions: what is asked answers as a tree does; names of at most 1000000 bytes.
-/
import Derived.Test.YtcjbnjoomgagjaaGreatDoorKGDel
import Derived.Test.YtcjbnjoomgagjaaGreatDoorShelf
import Derived.Deep.RegionWith
import Derived.Laws.ResultCell
import Derived.Test.YtcjbnjoomgagjaaGreatDoorKORefA
set_option linter.unusedVariables false
set_option linter.unusedSimpArgs false
namespace Go.Proofs.YtcjbnjoomgagjaaGreatDoor.G
open Go.RowKit
structure Tel (T : Tr) (E : Int → Int) (W0 : World) (p : Nat) (u g : Int) (all : Bool) : Prop where
  node : ∀ i W, Below W0.heap.size W0 W → Calls Tryz.prog 17 #[.pointer (some ⟨p, 0, none⟩), .int .i64 i] W fun e w' => ∃ (n : P.Nv), e = .returned (.tuple #[P.nodeV n, .int .i64 (E i)]) ∧ (n.kind == 2) = T.dir i ∧ Below W.heap.size W w'
  over : ∀ i W, Below W0.heap.size W0 W → Calls Tryz.prog 24 #[.pointer (some ⟨p, 0, none⟩), .int .i64 i] W fun e w' => e = .returned (.int .i64 (T.over i)) ∧ w' = W
  shown : ∀ i W, Below W0.heap.size W0 W → Calls Tryz.prog 12 #[.pointer (some ⟨p, 0, none⟩), P.credV u g, .int .i64 i, .bool all] W fun e w' => ∃ v, e = .returned (.tuple #[v, .int .i64 (T.shown i).1]) ∧ ((T.shown i).1 = 0 → w'.ownsRow W.heap.size 81 2 v (T.shown i).2.length (rowsC enC' (T.shown i).2)) ∧ Below W.heap.size W w'
theorem below_setRow {B g : Nat} {a w : World} (h : Below B a w) (hg : B ≤ g) (cs : Array Value) : Below B a (w.setRow g cs) :=
  ⟨h.os, h.tape, h.output, by have := h.size; simp [World.setRow]; omega, fun k hk => by rw [setRow_other _ _ _ _ (by omega)]; exact h.block k hk⟩
theorem step_store_row {ops : Array Oper} {o : Oper} {a : Act} {w : World} {K : Act → World → Prop} {Q : Exit → Act → World → Prop} {E : Prop} (hgd : o.guard = none) (ty : TypeId) (x y : Operand) (ho : o.op = .store ty x y)
    (g : Nat) (cells : Array Value) (hx : a.eval x = .pointer (some ⟨g, 0, none⟩)) (hy : a.eval y = .agg cells)
    (t : TypeId) (old : Array Value) (hg : w.heap[g]? = some (.cells old t (0, 0))) (hi : (Tryz.prog.info? ty).map (·.size) = some cells.size)
    (hold : old.size = cells.size) (h1 : cells.all (·.oneCell') = true) (h : K (a.put o.dst undef) (w.setRow g cells)) :
    if Region.wanted o (yielded ops a.tmps) = true then Oper.wp Tryz.prog o a w K Q else E := by
  have hw : Region.wanted o (yielded ops a.tmps) = true := by simp [Region.wanted, hgd]
  rw [if_pos hw]
  exact wp_store_row ty x y ho g cells hx hy t old hg hi hold h1 h
theorem sizeNode : (Tryz.prog.info? 55).map (·.size) = some 13 := by kernel_rfl
def nodeC (n : P.Nv) : Array Value := #[.int .i64 n.dev, .int .i64 n.ino, .int .i64 n.kind, .int .i64 n.mode, .int .i64 n.uid, .int .i64 n.gid, .int .i64 n.size, .int .i64 n.blocks, .int .i64 n.links, .int .i64 n.ta, .int .i64 n.tb, .int .i64 n.tc, .string n.target]
theorem nodeC_one (n : P.Nv) : (nodeC n).all (·.oneCell') = true := by unfold nodeC; simp [Value.oneCell']
def nodeZ : Array Value := #[.int .i64 0, .int .i64 0, .int .i64 0, .int .i64 0, .int .i64 0, .int .i64 0, .int .i64 0, .int .i64 0, .int .i64 0, .int .i64 0, .int .i64 0, .int .i64 0, .string ⟨#[]⟩]
theorem deepest_any (m : Int) (w : World) :
    Calls Tryz.prog 23 #[.int .i64 m] w fun e w' => e = .returned (.int .i64 (deepestI m)) ∧ w' = w := by
  have HR := Lib.hid (show deepestI m = if m < 0 then 100 else if m < 100 then m else 100 from rfl)
  by_cases h1 : m < 0
  · have d1 : decide (m < 0) = true := decide_eq_true h1
    rw [if_pos h1] at HR
    go_enter Tryz.func23, Tryz.ntmps23
    go_wp2_with fail
    go_ret
    exact ⟨by rw [HR.out]; rfl, rfl⟩
  · have d1 : decide (m < 0) = false := decide_eq_false h1
    rw [if_neg h1] at HR
    clear h1
    go_enter Tryz.func23, Tryz.ntmps23
    go_wp2_with fail
    all_goals go_ret
    all_goals (refine ⟨?_, rfl⟩; rw [HR.out]; simp; try omega)
theorem slash_last (l : List UInt8) : Lib.hasSuffix l [47] = decide (l.getLast? = some 47) := by
  unfold Lib.hasSuffix
  rcases List.eq_nil_or_concat l with rfl | ⟨r, a, rfl⟩
  · rfl
  · simp [List.isSuffixOf, List.isPrefixOf]
    rw [Bool.eq_iff_iff]
    exact ⟨fun h => decide_eq_true (beq_iff_eq.1 h).symm, fun h => beq_iff_eq.2 (of_decide_eq_true h).symm⟩
set_option maxHeartbeats 1000000 in
theorem join_any (a n : ByteArray) (w : World) (ha : a.size ≤ 1000000) (hn : n.size ≤ 1000000) :
    Calls Tryz.prog 49 #[.string a, .string n] w fun e w' => e = .returned (.string (slashN a ++ n)) ∧ w' = w := by
  have HS := Lib.hid (Tryz.strings_HasSuffix a ⟨#[47]⟩ w (by omega))
  have hs : Lib.hasSuffix a.data.toList (⟨#[47]⟩ : ByteArray).data.toList = decide (a.data.toList.getLast? = some 47) := slash_last _
  rw [hs] at HS
  have HR := Lib.hid (show slashN a = if a.data.toList.getLast? = some 47 then a else a ++ ⟨#[47]⟩ from rfl)
  have hz : (a ++ ⟨#[47]⟩ : ByteArray).size = a.size + 1 := by rw [ByteArray.size_append]; rfl
  clear hs
  by_cases h : a.data.toList.getLast? = some 47
  · rw [decide_eq_true h] at HS
    rw [if_pos h] at HR
    clear h
    go_enter Tryz.func49, Tryz.ntmps49
    go_wp2_with (go_at_call 71; refine HS.out.mono ?_; rintro e w3 ⟨rfl, hw⟩; subst hw)
    go_ret
    exact ⟨by rw [HR.out]; rfl, rfl⟩
  · rw [decide_eq_false h] at HS
    rw [if_neg h] at HR
    clear h
    go_enter Tryz.func49, Tryz.ntmps49
    go_wp2_with (go_at_call 71; refine HS.out.mono ?_; rintro e w3 ⟨rfl, hw⟩; subst hw)
    go_ret
    exact ⟨by rw [HR.out]; rfl, rfl⟩
section
variable {T : Tr} {E : Int → Int} {W0 : World} {R nb : Nat} {nc : Array Value} {b p : Nat} {u g most : Int} {all : Bool} {S : List Fr} {D : List Vis} {sv vv : Value} {w : World}
set_option maxRecDepth 100000 in
set_option maxHeartbeats 4000000 in
theorem goes_any (HT : Tel T E W0 p u g all) (v : Vis) (h : Wk W0 R nb nc b p u g most all S D sv vv w) :
    Calls Tryz.prog 25 #[.pointer (some ⟨b, 0, none⟩), visV v] w fun e w' => e = .returned (.bool (T.dir v.id && decide (v.depth < most))) ∧ Below w.heap.size w w' := by
  have HN := Lib.hid (fun W (hb : Below w.heap.size w W) => HT.node v.id W (h.low.trans (hb.mono h.low.size)))
  have HH := Lib.hid (show ∀ W, Below w.heap.size w W → W.cell? ⟨b, 0, none⟩ = some (.pointer (some ⟨p, 0, none⟩)) ∧ W.cell? ⟨b, 3, none⟩ = some (.int .i64 most) from fun W hb => ⟨(h.keep hb).cell (j := 0) rfl, (h.keep hb).cell (j := 3) rfl⟩)
  clear HT h
  unfold visV
  go_enter Tryz.func25, Tryz.ntmps25
  go_upto_region 1 with fail
  have HB1 := Lib.hid ((Below.refl w.heap.size w).alloc (Nat.le_refl _) (.cells #[.int .i64 v.id, .int .i64 v.depth, .string v.name, .string v.base, .bool v.last, .bool v.over, .int .i64 v.err] 42))
  have HX1 := Lib.hid (heap_alloc_new w (.cells #[.int .i64 v.id, .int .i64 v.depth, .string v.name, .string v.base, .bool v.last, .bool v.over, .int .i64 v.err] 42))
  generalize w.alloc (.cells #[.int .i64 v.id, .int .i64 v.depth, .string v.name, .string v.base, .bool v.last, .bool v.over, .int .i64 v.err] 42) = w1 at HB1 HX1 ⊢
  have HC := Lib.hid (show ∀ W, Below w1.heap.size w1 W → (W.cell? ⟨b, 0, none⟩ = some (.pointer (some ⟨p, 0, none⟩)) ∧ W.cell? ⟨b, 3, none⟩ = some (.int .i64 most)) ∧ W.cell? ⟨w.heap.size, 0, none⟩ = some (.int .i64 v.id) ∧ W.cell? ⟨w.heap.size, 1, none⟩ = some (.int .i64 v.depth) from fun W hb => by
    have q := (hb.block _ (B.heap_lt HX1.out)).trans HX1.out
    refine ⟨HH.out W (HB1.out.trans (hb.mono HB1.out.size)), ?_, ?_⟩ <;> (rw [cell_of_row _ _ _ _ _ _ q]; rfl))
  go_cut [5, 6] from 7 to 17 (fun a5 a6 wx => ∃ (n : P.Nv) (er : Int) (B5 : Nat), a5 = .pointer (some ⟨B5, 0, none⟩) ∧ a6 = .int .i64 er ∧ (n.kind == 2) = T.dir v.id ∧ wx.heap[B5]? = some (.cells (nodeC n) 55 (0, 0)) ∧ Below w1.heap.size w1 wx)
  case first =>
-- TILL 1
    refine B.Till.region (z := 12) (S := fun w' => Below w1.heap.size w1 w') (by kernel_rfl) ((Below.refl _ _).drew) (fun hHeld => ?_)
    refine B.Till.take (i := 0) (oi := { dst := some 8, op := Op.move (Operand.tmp 0), type := 95, pos := "roam.go:104", after := #[], guard := none }) (v := .pointer (some ⟨b, 0, none⟩)) rfl (by kernel_rfl) (by kernel_rfl) (by kernel_rfl) (by kernel_rfl) (fun _ _ _ h => h) (Or.inl ⟨by rfl, fun w0 hS0 => ?_⟩) (by assumption) ?_
    · go_simp
    try simp only [Act.put, List.setIfInBounds_toArray, List.set_cons_zero, List.set_cons_succ]
    refine B.Till.take (i := 1) (oi := { dst := some 9, op := Op.nilCheck (Operand.tmp 8), type := 0, pos := "roam.go:104", after := #[{ on := 0, ground := Ground.data }], guard := none }) (v := .pointer (some ⟨b, 0, none⟩)) rfl (by kernel_rfl) (by kernel_rfl) (by kernel_rfl) (by kernel_rfl) (fun _ _ _ h => h) (Or.inl ⟨by rfl, fun w0 hS0 => ?_⟩) (by assumption) ?_
    · go_simp
    try simp only [Act.put, List.setIfInBounds_toArray, List.set_cons_zero, List.set_cons_succ]
    refine B.Till.take (i := 2) (oi := { dst := some 10, op := Op.fieldAddr 70 (Operand.tmp 9) 0, type := 0, pos := "roam.go:104", after := #[{ on := 1, ground := Ground.data }], guard := none }) (v := .pointer (some ⟨b, 0, none⟩)) rfl (by kernel_rfl) (by kernel_rfl) (by kernel_rfl) (by kernel_rfl) (fun _ _ _ h => h) (Or.inl ⟨by rfl, fun w0 hS0 => ?_⟩) (by assumption) ?_
    · go_simp
    try simp only [Act.put, List.setIfInBounds_toArray, List.set_cons_zero, List.set_cons_succ]
    refine B.Till.take (i := 3) (oi := { dst := some 11, op := Op.load 29 (Operand.tmp 10), type := 29, pos := "roam.go:104", after := #[{ on := 2, ground := Ground.data }], guard := none }) (v := .pointer (some ⟨p, 0, none⟩)) rfl (by kernel_rfl) (by kernel_rfl) (by kernel_rfl) (by kernel_rfl) (fun _ _ _ h => h) (Or.inl ⟨by rfl, fun w0 hS0 => ?_⟩) (by assumption) ?_
    · have c0 := (HC.out _ hS0).1.1; go_simp
    try simp only [Act.put, List.setIfInBounds_toArray, List.set_cons_zero, List.set_cons_succ]
    refine B.Till.take (i := 4) (oi := { dst := some 12, op := Op.fieldAddr 42 (Operand.tmp 3) 0, type := 0, pos := "roam.go:104", after := #[], guard := none }) (v := .pointer (some ⟨w.heap.size, 0, none⟩)) rfl (by kernel_rfl) (by kernel_rfl) (by kernel_rfl) (by kernel_rfl) (fun _ _ _ h => h) (Or.inl ⟨by rfl, fun w0 hS0 => ?_⟩) (by assumption) ?_
    · go_simp
    try simp only [Act.put, List.setIfInBounds_toArray, List.set_cons_zero, List.set_cons_succ]
    refine B.Till.take (i := 5) (oi := { dst := some 13, op := Op.load 3 (Operand.tmp 12), type := 3, pos := "roam.go:104", after := #[{ on := 4, ground := Ground.data }], guard := none }) (v := .int .i64 v.id) rfl (by kernel_rfl) (by kernel_rfl) (by kernel_rfl) (by kernel_rfl) (fun _ _ _ h => h) (Or.inl ⟨by rfl, fun w0 hS0 => ?_⟩) (by assumption) ?_
    · have c0 := (HC.out _ hS0).2.1; go_simp
    try simp only [Act.put, List.setIfInBounds_toArray, List.set_cons_zero, List.set_cons_succ]
    refine B.Till.two (i := 6) (j := 10) (o := { dst := some 14, op := Op.call { callee := Callee.value (Operand.func 17), args := #[Operand.tmp 11, Operand.tmp 13], argTypes := #[29, 3] }, type := 56, pos := "roam.go:104", after := #[{ on := 3, ground := Ground.data }, { on := 5, ground := Ground.data }], guard := none }) (o' := { dst := some 5, op := Op.alloc 55, type := 0, pos := "roam.go:104", after := #[], guard := none }) (by kernel_rfl) rfl rfl (fun K hK => ?_) (fun K hK => ?_)
    · go_simp
      refine (HN.out _ (HB1.out.trans (hHeld.mono HB1.out.size))).mono ?_
      rintro e w6 ⟨n, rfl, hk6, hb6⟩
      have hH6 : Below w1.heap.size w1 w6 := hHeld.trans (hb6.mono hHeld.size)
      go_wp2_with fail
      refine hK.out _ _ (fun _ => hH6) ?_
      clear hK K
      try simp only [Act.put, List.setIfInBounds_toArray, List.set_cons_zero, List.set_cons_succ]
      refine B.Till.take (i := 7) (oi := { dst := some 7, op := Op.move (Operand.tmp 14), type := 56, pos := "roam.go:104", after := #[{ on := 6, ground := Ground.data }], guard := none }) (v := .tuple #[P.nodeV n, .int .i64 (E v.id)]) rfl (by kernel_rfl) (by kernel_rfl) (by kernel_rfl) (by kernel_rfl) (fun _ _ _ h => h) (Or.inl ⟨by rfl, fun w0 hS0 => ?_⟩) (by assumption) ?_
      · go_simp
      try simp only [Act.put, List.setIfInBounds_toArray, List.set_cons_zero, List.set_cons_succ]
      refine B.Till.take (i := 8) (oi := { dst := some 15, op := Op.extract (Operand.tmp 7) 0, type := 55, pos := "roam.go:104", after := #[{ on := 7, ground := Ground.data }], guard := none }) (v := P.nodeV n) rfl (by kernel_rfl) (by kernel_rfl) (by kernel_rfl) (by kernel_rfl) (fun _ _ _ h => h) (Or.inl ⟨by rfl, fun w0 hS0 => ?_⟩) (by assumption) ?_
      · go_simp
      try simp only [Act.put, List.setIfInBounds_toArray, List.set_cons_zero, List.set_cons_succ]
      refine B.Till.take (i := 9) (oi := { dst := some 16, op := Op.extract (Operand.tmp 7) 1, type := 40, pos := "roam.go:104", after := #[{ on := 7, ground := Ground.data }, { on := 11, ground := Ground.gcOnly Departure.lateStores }], guard := none }) (v := .int .i64 (E v.id)) rfl (by kernel_rfl) (by kernel_rfl) (by kernel_rfl) (by kernel_rfl) (fun _ _ _ h => h) (Or.inl ⟨by rfl, fun w0 hS0 => ?_⟩) (by assumption) ?_
      · go_simp
      try simp only [Act.put, List.setIfInBounds_toArray, List.set_cons_zero, List.set_cons_succ]
      refine B.Till.next (i := 10) (o := { dst := some 5, op := Op.alloc 55, type := 0, pos := "roam.go:104", after := #[], guard := none }) (by kernel_rfl) rfl (fun K hK => ?_)
      go_simp
      refine hK.out _ _ (fun _ => hH6.alloc hH6.size _) ?_
      clear hK K
      try simp only [Act.put, List.setIfInBounds_toArray, List.set_cons_zero, List.set_cons_succ]
      have hH7 := hH6.alloc hH6.size (.cells nodeZ 55)
      refine B.Till.next (i := 11) (o := { dst := none, op := Op.store 55 (Operand.tmp 5) (Operand.tmp 15), type := 0, pos := "roam.go:104", after := #[{ on := 10, ground := Ground.data }, { on := 8, ground := Ground.data }, { on := 6, ground := Ground.chain }, { on := 0, ground := Ground.phase }, { on := 1, ground := Ground.phase }, { on := 2, ground := Ground.phase }, { on := 3, ground := Ground.phase }, { on := 4, ground := Ground.phase }, { on := 5, ground := Ground.phase }, { on := 6, ground := Ground.phase }, { on := 7, ground := Ground.phase }, { on := 8, ground := Ground.phase }, { on := 9, ground := Ground.textOnly Departure.lateStores }, { on := 10, ground := Ground.phase }], guard := none }) (by kernel_rfl) rfl (fun K hK => ?_)
      refine step_store_row rfl 55 (.tmp 5) (.tmp 15) rfl w6.heap.size (nodeC n) rfl rfl 55 _ (heap_alloc_new _ _) sizeNode rfl (nodeC_one n) ?_
      refine hK.out _ _ (fun _ => (below_setRow hH7 hH6.size _)) ?_
      clear hK K
      try simp only [Act.put, List.setIfInBounds_toArray, List.set_cons_zero, List.set_cons_succ]
      refine B.Till.next (i := 12) (o := { dst := some 6, op := Op.assign (Operand.tmp 16), type := 40, pos := "roam.go:104", after := #[{ on := 9, ground := Ground.data }, { on := 11, ground := Ground.chain }, { on := 0, ground := Ground.phase }, { on := 1, ground := Ground.phase }, { on := 2, ground := Ground.phase }, { on := 3, ground := Ground.phase }, { on := 4, ground := Ground.phase }, { on := 5, ground := Ground.phase }, { on := 6, ground := Ground.phase }, { on := 7, ground := Ground.phase }, { on := 8, ground := Ground.phase }, { on := 9, ground := Ground.phase }, { on := 10, ground := Ground.phase }, { on := 11, ground := Ground.phase }], guard := none }) (by kernel_rfl) rfl (fun K hK => ?_)
      go_simp
      refine hK.out _ _ (fun q => absurd rfl q) ?_
      clear hK K
      try simp only [Act.put, List.setIfInBounds_toArray, List.set_cons_zero, List.set_cons_succ]
      refine B.Till.done (by kernel_rfl) ?_
      go_wp2_with fail
      go_meet
      exact ⟨n, E v.id, w6.heap.size, rfl, rfl, hk6, setRow_heap _ _ _ _ _ _ (heap_alloc_new _ _), (below_setRow hH7 hH6.size _)⟩
    · go_simp
      refine hK.out _ _ (fun _ => hHeld.alloc hHeld.size _) ?_
      clear hK K
      try simp only [Act.put, List.setIfInBounds_toArray, List.set_cons_zero, List.set_cons_succ]
      have hH7 := hHeld.alloc hHeld.size (.cells nodeZ 55)
      have HX7 := heap_alloc_new w1.drew (.cells nodeZ 55)
      refine B.Till.next (i := 6) (o := { dst := some 14, op := Op.call { callee := Callee.value (Operand.func 17), args := #[Operand.tmp 11, Operand.tmp 13], argTypes := #[29, 3] }, type := 56, pos := "roam.go:104", after := #[{ on := 3, ground := Ground.data }, { on := 5, ground := Ground.data }], guard := none }) (by kernel_rfl) rfl (fun K hK => ?_)
      go_simp
      refine (HN.out _ (HB1.out.trans (hH7.mono HB1.out.size))).mono ?_
      rintro e w6 ⟨n, rfl, hk6, hb6⟩
      have hH6 : Below w1.heap.size w1 w6 := hH7.trans (hb6.mono hH7.size)
      have HX6 := (hb6.block _ (B.heap_lt HX7)).trans HX7
      go_wp2_with fail
      refine hK.out _ _ (fun _ => hH6) ?_
      clear hK K
      try simp only [Act.put, List.setIfInBounds_toArray, List.set_cons_zero, List.set_cons_succ]
      refine B.Till.take (i := 7) (oi := { dst := some 7, op := Op.move (Operand.tmp 14), type := 56, pos := "roam.go:104", after := #[{ on := 6, ground := Ground.data }], guard := none }) (v := .tuple #[P.nodeV n, .int .i64 (E v.id)]) rfl (by kernel_rfl) (by kernel_rfl) (by kernel_rfl) (by kernel_rfl) (fun _ _ _ h => h) (Or.inl ⟨by rfl, fun w0 hS0 => ?_⟩) (by assumption) ?_
      · go_simp
      try simp only [Act.put, List.setIfInBounds_toArray, List.set_cons_zero, List.set_cons_succ]
      refine B.Till.take (i := 8) (oi := { dst := some 15, op := Op.extract (Operand.tmp 7) 0, type := 55, pos := "roam.go:104", after := #[{ on := 7, ground := Ground.data }], guard := none }) (v := P.nodeV n) rfl (by kernel_rfl) (by kernel_rfl) (by kernel_rfl) (by kernel_rfl) (fun _ _ _ h => h) (Or.inl ⟨by rfl, fun w0 hS0 => ?_⟩) (by assumption) ?_
      · go_simp
      try simp only [Act.put, List.setIfInBounds_toArray, List.set_cons_zero, List.set_cons_succ]
      refine B.Till.take (i := 9) (oi := { dst := some 16, op := Op.extract (Operand.tmp 7) 1, type := 40, pos := "roam.go:104", after := #[{ on := 7, ground := Ground.data }, { on := 11, ground := Ground.gcOnly Departure.lateStores }], guard := none }) (v := .int .i64 (E v.id)) rfl (by kernel_rfl) (by kernel_rfl) (by kernel_rfl) (by kernel_rfl) (fun _ _ _ h => h) (Or.inl ⟨by rfl, fun w0 hS0 => ?_⟩) (by assumption) ?_
      · go_simp
      try simp only [Act.put, List.setIfInBounds_toArray, List.set_cons_zero, List.set_cons_succ]
      refine B.Till.next (i := 11) (o := { dst := none, op := Op.store 55 (Operand.tmp 5) (Operand.tmp 15), type := 0, pos := "roam.go:104", after := #[{ on := 10, ground := Ground.data }, { on := 8, ground := Ground.data }, { on := 6, ground := Ground.chain }, { on := 0, ground := Ground.phase }, { on := 1, ground := Ground.phase }, { on := 2, ground := Ground.phase }, { on := 3, ground := Ground.phase }, { on := 4, ground := Ground.phase }, { on := 5, ground := Ground.phase }, { on := 6, ground := Ground.phase }, { on := 7, ground := Ground.phase }, { on := 8, ground := Ground.phase }, { on := 9, ground := Ground.textOnly Departure.lateStores }, { on := 10, ground := Ground.phase }], guard := none }) (by kernel_rfl) rfl (fun K hK => ?_)
      refine step_store_row rfl 55 (.tmp 5) (.tmp 15) rfl w1.heap.size (nodeC n) rfl rfl 55 _ HX6 sizeNode rfl (nodeC_one n) ?_
      refine hK.out _ _ (fun _ => (below_setRow hH6 (Nat.le_refl _) _)) ?_
      clear hK K
      try simp only [Act.put, List.setIfInBounds_toArray, List.set_cons_zero, List.set_cons_succ]
      refine B.Till.next (i := 12) (o := { dst := some 6, op := Op.assign (Operand.tmp 16), type := 40, pos := "roam.go:104", after := #[{ on := 9, ground := Ground.data }, { on := 11, ground := Ground.chain }, { on := 0, ground := Ground.phase }, { on := 1, ground := Ground.phase }, { on := 2, ground := Ground.phase }, { on := 3, ground := Ground.phase }, { on := 4, ground := Ground.phase }, { on := 5, ground := Ground.phase }, { on := 6, ground := Ground.phase }, { on := 7, ground := Ground.phase }, { on := 8, ground := Ground.phase }, { on := 9, ground := Ground.phase }, { on := 10, ground := Ground.phase }, { on := 11, ground := Ground.phase }], guard := none }) (by kernel_rfl) rfl (fun K hK => ?_)
      go_simp
      refine hK.out _ _ (fun q => absurd rfl q) ?_
      clear hK K
      try simp only [Act.put, List.setIfInBounds_toArray, List.set_cons_zero, List.set_cons_succ]
      refine B.Till.done (by kernel_rfl) ?_
      go_wp2_with fail
      go_meet
      exact ⟨n, E v.id, w1.heap.size, rfl, rfl, hk6, setRow_heap _ _ _ _ _ _ HX6, (below_setRow hH6 (Nat.le_refl _) _)⟩
-- TILL 1 END
  case rest =>
    obtain ⟨n, er, B5, rfl, rfl, hk5, hx5, hb5⟩ := hcut
    have c2 := (cell_of_row _ _ 2 _ _ _ hx5).trans (show (nodeC n)[2]? = some (.int .i64 n.kind) from rfl)
    obtain ⟨⟨_, c3⟩, _, c4⟩ := HC.out _ hb5
    have HB5 := Lib.hid (HB1.out.trans (hb5.mono HB1.out.size))
    clear hx5 hb5 HC HX1 HB1 HN HH
    cases hd : T.dir v.id with
    | true =>
      have k2 : (n.kind == 2) = true := hk5.trans hd
      have HD := Lib.hid hd
      clear hk5 hd
      go_upto_region 2 with fail
      go_quiet (fail)
      go_wp2
      go_ret
      refine ⟨?_, drewn_below HB5.out⟩
      rw [HD.out]
      simp
    | false =>
      have k2 : (n.kind == 2) = false := hk5.trans hd
      have HD := Lib.hid hd
      clear hk5 hd
      go_upto_region 2 with fail
      go_quiet (fail)
      go_wp2
      go_ret
      refine ⟨?_, drewn_below HB5.out⟩
      rw [HD.out]
      simp
set_option maxRecDepth 100000 in
set_option maxHeartbeats 4000000 in
theorem next_any (HT : Tel T E W0 p u g all) {v : Vis} {a : Value} {x : ByteArray × Int} {l : List (ByteArray × Int)} {r : List Fr} {k cap : Nat} (h : Wk W0 R nb nc b p u g most all (⟨v, a, x :: l⟩ :: r) D (.slice (some ⟨k, 0, none⟩) (r.length + 1) cap) vv w) (hr : r.length ≤ 1000) (hd : v.depth = (r.length : Int)) (hn : v.name.size ≤ 100000) (hx : x.1.size ≤ 100000) :
    Calls Tryz.prog 29 #[.pointer (some ⟨b, 0, none⟩)] w fun e w' => e = .returned (visV (atV T (kidV v x l.isEmpty))) ∧ ∃ c, Wk W0 R nb nc b p u g most all (⟨v, c, l⟩ :: r) D (.slice (some ⟨k, 0, none⟩) (r.length + 1) cap) vv w' := by
  have HO := Lib.hid (fun W hb => HT.over x.2 W hb)
  have HJ := Lib.hid (fun W => join_any v.name x.1 W (by omega) (by omega))
  have HH := Lib.hid h
  have HTop := Lib.hid (fun W (hb : Below w.heap.size w W) => top_any (HH.out.keep hb) hr)
  have HLe := Lib.hid (show ((l.length : Int) == 0) = l.isEmpty from by
    cases l with
    | nil => rfl
    | cons y l => rw [List.isEmpty_cons, beq_eq_false_iff_ne, List.length_cons]; omega)
  have hw : IntKind.i64.wrap (v.depth + 1) = v.depth + 1 := IntWalk.i64_in _ (by omega)
  clear h HT hn hx hd
  go_enter Tryz.func29, Tryz.ntmps29
  go_upto_region 1 with fail
  have HX0 := Lib.hid (heap_alloc_new w (.cells #[.int .i64 0, .int .i64 0, .string ⟨#[]⟩, .string ⟨#[]⟩, .bool false, .bool false, .int .i64 0] 42))
  have HB0 := Lib.hid ((Below.refl w.heap.size w).alloc (Nat.le_refl _) (.cells #[.int .i64 0, .int .i64 0, .string ⟨#[]⟩, .string ⟨#[]⟩, .bool false, .bool false, .int .i64 0] 42))
  generalize w.alloc (.cells #[.int .i64 0, .int .i64 0, .string ⟨#[]⟩, .string ⟨#[]⟩, .bool false, .bool false, .int .i64 0] 42) = w1 at HX0 HB0 ⊢
  go_wp2_with fail
  refine (HTop.out _ HB0.out).mono ?_
  rintro e w2 ⟨rfl, hb⟩
  have HX2 := Lib.hid ((hb.block _ (B.heap_lt HX0.out)).trans HX0.out)
  have HW2 := Lib.hid (HH.out.keep (HB0.out.trans (hb.mono HB0.out.size)))
  have HNe := Lib.hid (show b ≠ w.heap.size ∧ k ≠ w.heap.size ∧ W0.heap.size ≤ w.heap.size ∧ (∀ j, vv.ownBlock = some j → j ≠ w.heap.size) ∧ nb ≠ w.heap.size from by
    refine ⟨fun e => ?_, fun e => ?_, HH.out.low.size, fun j hj e => ?_, fun e => by have := B.heap_lt HH.out.now; omega⟩
    · have := B.heap_lt HH.out.head; omega
    · have := (HH.out.stk.lt k rfl).2; omega
    · have := (HH.out.vis.lt j hj).2; omega)
  clear hb HX0 HB0 HTop HH
  generalize w.heap.size = B0 at HX2 HNe ⊢
  obtain ⟨ge, oe, ce, rfl, hge, hle, hce, e0, e1, et⟩ := (HW2.out.ents _ List.mem_cons_self).first
  have HET := Lib.hid et
  have hLge := Lib.hid hge
  clear et hge
  have c7 := HW2.out.top (j := 7) rfl
  have f7 := HW2.out.top_free (r.length * 8 + 7)
  have hpos : 0 < l.length + 1 := by omega
  have hcp : l.length + 1 ≤ ce := hle
  go_upto_region 3 with fail
  have HX3 := Lib.hid (heap_alloc_new w2 (.cells #[.string x.1, .int .i64 x.2] 81))
  have HBn := Lib.hid ((Below.refl w2.heap.size w2).alloc (Nat.le_refl _) (.cells #[.string x.1, .int .i64 x.2] 81))
  generalize w2.alloc (.cells #[.string x.1, .int .i64 x.2] 81) = w3 at HX3 HBn ⊢
  have HW3 := Lib.hid (HW2.out.keep HBn.out)
  have HX3' := Lib.hid ((HBn.out.block _ (B.heap_lt HX2.out)).trans HX2.out)
  have HNe3 := Lib.hid (show k ≠ w2.heap.size from fun e => by have := (HW2.out.stk.lt k rfl).2; omega)
  have HE3 := Lib.hid (HET.out.keep HBn.out)
  clear c7 f7 e0 e1 HET HX2 HW2 HBn
  generalize w2.heap.size = B4 at HX3 HNe3 ⊢
  have c7 := HW3.out.top (j := 7) rfl
  have f7 := HW3.out.top_free (r.length * 8 + 7)
  have HW4 := Lib.hid (HW3.out.less HE3.out)
  go_upto_region 4 with fail
  have HX4 := Lib.hid ((Below.heap_setCell w3 ⟨k, r.length * 8 + 7, none⟩ (.slice (if ce = 1 then some ⟨ge, oe, none⟩ else some ⟨ge, oe + 2, none⟩) l.length (ce - 1)) B4 (fun e => HNe3.out e.symm)).trans HX3.out)
  have HX4' := Lib.hid ((Below.heap_setCell w3 ⟨k, r.length * 8 + 7, none⟩ (.slice (if ce = 1 then some ⟨ge, oe, none⟩ else some ⟨ge, oe + 2, none⟩) l.length (ce - 1)) B0 (fun e => HNe.out.2.1 e.symm)).trans HX3'.out)
  clear HW3 HX3 HX3' HE3 c7 f7
  generalize (if ce = 1 then some (⟨ge, oe, none⟩ : Addr) else some ⟨ge, oe + 2, none⟩) = ao at *
  generalize w3.setCell ⟨k, r.length * 8 + 7, none⟩ (.slice ao l.length (ce - 1)) = w4 at HW4 HX4 HX4' ⊢
  have c0 := HW4.out.cell (j := 0) rfl
  have d0 : w4.cell? ⟨B4, 0, none⟩ = some (.string x.1) := by rw [cell_of_row _ _ _ _ _ _ HX4.out]; rfl
  have d1 : w4.cell? ⟨B4, 1, none⟩ = some (.int .i64 x.2) := by rw [cell_of_row _ _ _ _ _ _ HX4.out]; rfl
  have t1 : w4.cell? ⟨k, r.length * 8 + 1, none⟩ = some (.int .i64 v.depth) := HW4.out.top (j := 1) rfl
  have t2 : w4.cell? ⟨k, r.length * 8 + 2, none⟩ = some (.string v.name) := HW4.out.top (j := 2) rfl
  have t7 : w4.cell? ⟨k, r.length * 8 + 7, none⟩ = some (.slice ao l.length (ce - 1)) := HW4.out.top (j := 7) rfl
  have HLd := Lib.hid (HW4.out.low.drew)
  have hle2 := HLe.out
  go_still_tail 30, (by kernel_rfl)
  still_call (HO.out w4.drew HLd.out)
  repeat still_step
  still_call (HJ.out w4.drew)
  repeat still_step
  refine wpStill_nil ?_
  change wpList _ _ _ _ _ w4.drew
  have HW5 := Lib.hid (HW4.out.keep (drewn_below (n := 1) (Below.refl _ _)))
  change Hid (Wk _ _ _ _ _ _ _ _ _ _ _ _ _ _ w4.drew) at HW5
  have HX5 := Lib.hid (show w4.drew.heap[B0]? = _ from HX4'.out)
  clear c0 d0 d1 t1 t2 t7 HW4 HX4 HX4'
  generalize w4.drew = w5 at HW5 HX5 ⊢
  go_wp2_with (refine wpList_store_row rfl 42 (.tmp 2) (.tmp 50) rfl B0 (visC (atV T (kidV v x l.isEmpty))).toArray rfl rfl 42 _ HX5.out sizeVis rfl (all_oneCell_toArray (visC_one _)) ?_)
  refine bodyPost_ret (v := visV (atV T (kidV v x l.isEmpty))) ?_ rfl ⟨rfl, .slice ao l.length (ce - 1), ?_⟩
  · exact results_cell_row Tryz.results29 _ _ B0 _ _ _ _ rfl (setRow_heap _ _ _ _ _ _ HX5.out) Tryz.underlying42 rfl sizeVis
  · obtain ⟨h1, h2, h3, h4, h5, h6, h7, h8, h9, h10⟩ := HW5.out
    refine ⟨?_, B.owns_at h2 fun j hj => setRow_other _ _ _ _ ?_, B.owns_at h3 fun j hj => setRow_other _ _ _ _ (HNe.out.2.2.2.1 j hj), fun y hy => (h4 y hy).at_ fun j cur _ hj => ?_, below_setRow h5 HNe.out.2.2.1 _, h6, by rw [setRow_other _ _ _ _ HNe.out.2.2.2.2]; exact h7, h8, h9, by simpa [World.setRow] using h10⟩
    · rw [setRow_other _ _ _ _ HNe.out.1]; exact h1
    · obtain rfl : k = j := Option.some.inj hj
      exact HNe.out.2.1
    · rw [setRow_other _ _ _ _ (by rintro rfl; rw [HX5.out] at hj; simp at hj)]; exact hj
end
end Go.Proofs.YtcjbnjoomgagjaaGreatDoor.G
namespace Go.Proofs.YtcjbnjoomgagjaaGreatDoor.G
open Go.RowKit
theorem infoOp : (Tryz.prog.info? 97).map (fun i => (i.zero, i.size, i.bytes)) = some (some (.agg #[.int .i64 0, .int .i64 0, .string ⟨#[]⟩, .string ⟨#[]⟩, .bool false, .bool false, .int .i64 0, .slice none 0 0]), 8, 88) := by kernel_rfl
theorem frC_one (x : Fr) (h : x.lv.oneCell' = true) : ∀ u ∈ frC x, u.oneCell' = true := by
  intro u hu
  simp only [frC, List.mem_cons, List.not_mem_nil, or_false] at hu
  rcases hu with rfl | rfl | rfl | rfl | rfl | rfl | rfl | rfl
  all_goals first | rfl | exact h
theorem EntsAt.one {B0 : Nat} {w : World} {v : Value} {l : List (ByteArray × Int)} (h : EntsAt B0 w v l) : v.oneCell' = true := by
  obtain ⟨a, cap, rfl, _⟩ := h
  rfl
section
variable {T : Tr} {E : Int → Int} {W0 : World} {R nb : Nat} {nc : Array Value} {b p : Nat} {u g most : Int} {all : Bool} {S : List Fr} {D : List Vis} {sv vv : Value} {w : World}
structure Ready (W0 : World) (R nb : Nat) (nc : Array Value) (b p : Nat) (u g most : Int) (all : Bool) (S : List Fr) (D : List Vis) (sv vv : Value) (V : Vis) (B1 : Nat) (w3 : World) : Prop where
  wk : Wk W0 R nb nc b p u g most all S D sv vv w3
  box : w3.heap[B1]? = some (.cells (visC V).toArray 42 (0, 0))
  apart : B1 ≠ b ∧ (∀ j, vv.ownBlock = some j → j ≠ B1) ∧ (∀ j, sv.ownBlock = some j → j ≠ B1)
section
variable {V : Vis} {B1 : Nat} {w3 : World} (h : Ready W0 R nb nc b p u g most all S D sv vv V B1 w3)
theorem Ready.cb {W : World} (h : Ready W0 R nb nc b p u g most all S D sv vv V B1 w3) (hW : W.heap[b]? = w3.heap[b]?) : W.cell? ⟨b, 5, none⟩ = some sv ∧ W.cell? ⟨b, 6, none⟩ = some vv ∧ W.frozen? ⟨b, 6, none⟩ = false := by
  have q := hW.trans h.wk.head
  refine ⟨?_, ?_, frozen_of_row _ _ _ _ _ q⟩ <;> (rw [cell_of_row _ _ _ _ _ _ q]; rfl)
theorem Ready.fb {W : World} (h : Ready W0 R nb nc b p u g most all S D sv vv V B1 w3) (hW : W.heap[b]? = w3.heap[b]?) : W.frozen? ⟨b, 5, none⟩ = false := frozen_of_row _ _ _ _ _ (hW.trans h.wk.head)
theorem Ready.cx {W : World} (h : Ready W0 R nb nc b p u g most all S D sv vv V B1 w3) (hW : W.heap[B1]? = w3.heap[B1]?) : W.cell? ⟨B1, 0, none⟩ = some (.int .i64 V.id) ∧ W.cell? ⟨B1, 1, none⟩ = some (.int .i64 V.depth) ∧ W.cell? ⟨B1, 2, none⟩ = some (.string V.name) ∧ W.cell? ⟨B1, 3, none⟩ = some (.string V.base) ∧ W.cell? ⟨B1, 4, none⟩ = some (.bool V.last) ∧ W.cell? ⟨B1, 5, none⟩ = some (.bool V.over) ∧ W.cell? ⟨B1, 6, none⟩ = some (.int .i64 V.err) := by
  have q := hW.trans h.box
  refine ⟨?_, ?_, ?_, ?_, ?_, ?_, ?_⟩ <;> (rw [cell_of_row _ _ _ _ _ _ q]; rfl)
theorem Ready.lb (h : Ready W0 R nb nc b p u g most all S D sv vv V B1 w3) : b < w3.heap.size := B.heap_lt h.wk.head
theorem Ready.lx (h : Ready W0 R nb nc b p u g most all S D sv vv V B1 w3) : B1 < w3.heap.size := B.heap_lt h.box
theorem Ready.neb (h : Ready W0 R nb nc b p u g most all S D sv vv V B1 w3) : some b ≠ vv.ownBlock := fun e => h.wk.v_ne e.symm rfl
theorem Ready.nx (h : Ready W0 R nb nc b p u g most all S D sv vv V B1 w3) : some B1 ≠ vv.ownBlock := fun e => h.apart.2.1 _ e.symm rfl
theorem Ready.neb' (h : Ready W0 R nb nc b p u g most all S D sv vv V B1 w3) : some b ≠ sv.ownBlock := fun e => h.wk.s_ne e.symm rfl
theorem Ready.nx' (h : Ready W0 R nb nc b p u g most all S D sv vv V B1 w3) : some B1 ≠ sv.ownBlock := fun e => h.apart.2.2 _ e.symm rfl
end
theorem drew_alloc (w3 : World) (o : Obj) : Below w3.heap.size w3 (w3.drew.alloc o) := ((Below.refl _ _).drew).alloc (Nat.le_refl _) o
theorem lt_drew_alloc {w3 : World} {k : Nat} (h : k < w3.heap.size) (o : Obj) : k < (w3.drew.alloc o).heap.size := by simp; omega
set_option maxRecDepth 100000 in
set_option maxHeartbeats 8000000 in
theorem open_any (HT : Tel T E W0 p u g all) (v : Vis) (h : Wk W0 R nb nc b p u g most all S D sv vv w) (hS : S.length ≤ 1000) (hD : D.length ≤ 1000000) :
    Calls Tryz.prog 26 #[.pointer (some ⟨b, 0, none⟩), visV v] w fun e w' => e = .returned (.tuple #[]) ∧
      (((T.shown v.id).1 ≠ 0 ∧ ∃ vv', Wk W0 R nb nc b p u g most all S (D ++ [errV v (T.shown v.id).1]) sv vv' w') ∨ ((T.shown v.id).1 = 0 ∧ ∃ lv sv', Wk W0 R nb nc b p u g most all (⟨v, lv, (T.shown v.id).2⟩ :: S) D sv' vv w')) := by
  have HSh := Lib.hid (fun W hb => HT.shown v.id W hb)
  obtain ⟨er, her⟩ : ∃ er, (T.shown v.id).1 = er := ⟨_, rfl⟩
  obtain ⟨l, hl⟩ : ∃ l, (T.shown v.id).2 = l := ⟨_, rfl⟩
  rw [her, hl] at HSh ⊢
  clear her hl HT
  have HH := Lib.hid h
  clear h
  unfold visV P.credV at *
  go_enter Tryz.func26, Tryz.ntmps26
  go_upto_region 1 with fail
  have HX1 := Lib.hid (heap_alloc_new w (.cells #[.int .i64 v.id, .int .i64 v.depth, .string v.name, .string v.base, .bool v.last, .bool v.over, .int .i64 v.err] 42))
  have HB1 := Lib.hid ((Below.refl w.heap.size w).alloc (Nat.le_refl _) (.cells #[.int .i64 v.id, .int .i64 v.depth, .string v.name, .string v.base, .bool v.last, .bool v.over, .int .i64 v.err] 42))
  have HNe := Lib.hid (show w.heap.size ≠ b ∧ (∀ j, vv.ownBlock = some j → j ≠ w.heap.size) ∧ (∀ j, sv.ownBlock = some j → j ≠ w.heap.size) ∧ W0.heap.size ≤ w.heap.size ∧ nb ≠ w.heap.size from by
    refine ⟨fun e => ?_, fun j hj e => ?_, fun j hj e => ?_, HH.out.low.size, fun e => by have := B.heap_lt HH.out.now; omega⟩
    · have := B.heap_lt HH.out.head; omega
    · have := (HH.out.vis.lt j hj).2; omega
    · have := (HH.out.stk.lt j hj).2; omega)
  generalize w.alloc (.cells #[.int .i64 v.id, .int .i64 v.depth, .string v.name, .string v.base, .bool v.last, .bool v.over, .int .i64 v.err] 42) = w1 at HX1 HB1 ⊢
  have HW1 := Lib.hid (HH.out.keep HB1.out)
  clear HB1 HH
  generalize w.heap.size = B1 at HX1 HNe ⊢
  have HC1 := Lib.hid (show ∀ W, Below w1.heap.size w1 W → W.cell? ⟨b, 0, none⟩ = some (.pointer (some ⟨p, 0, none⟩)) ∧ W.cell? ⟨b, 1, none⟩ = some (.int .i64 u) ∧ W.cell? ⟨b, 2, none⟩ = some (.int .i64 g) ∧ W.cell? ⟨b, 4, none⟩ = some (.bool all) ∧ W.cell? ⟨B1, 0, none⟩ = some (.int .i64 v.id) from fun W hb => by
    have q := HW1.out.keep hb
    exact ⟨q.cell (j := 0) rfl, q.cell (j := 1) rfl, q.cell (j := 2) rfl, q.cell (j := 4) rfl, by rw [cell_of_row _ _ _ _ _ _ ((hb.block _ (B.heap_lt HX1.out)).trans HX1.out)]; rfl⟩)
-- TILL 3
  refine B.Till.region (z := 19) (S := fun w' => Below w1.heap.size w1 w') (by kernel_rfl) ((Below.refl _ _).drew) (fun hHeld => ?_)
  refine B.Till.take (i := 0) (oi := { dst := some 7, op := Op.move (Operand.tmp 0), type := 95, pos := "roam.go:110", after := #[], guard := none }) (v := .pointer (some ⟨b, 0, none⟩)) rfl (by kernel_rfl) (by kernel_rfl) (by kernel_rfl) (by kernel_rfl) (fun _ _ _ h => h) (Or.inl ⟨by rfl, fun w0 hS0 => ?_⟩) (by assumption) ?_
  · go_simp
  try simp only [Act.put, List.setIfInBounds_toArray, List.set_cons_zero, List.set_cons_succ]
  refine B.Till.take (i := 1) (oi := { dst := some 8, op := Op.nilCheck (Operand.tmp 7), type := 0, pos := "roam.go:110", after := #[{ on := 0, ground := Ground.data }], guard := none }) (v := .pointer (some ⟨b, 0, none⟩)) rfl (by kernel_rfl) (by kernel_rfl) (by kernel_rfl) (by kernel_rfl) (fun _ _ _ h => h) (Or.inl ⟨by rfl, fun w0 hS0 => ?_⟩) (by assumption) ?_
  · go_simp
  try simp only [Act.put, List.setIfInBounds_toArray, List.set_cons_zero, List.set_cons_succ]
  refine B.Till.take (i := 2) (oi := { dst := some 9, op := Op.fieldAddr 70 (Operand.tmp 8) 0, type := 0, pos := "roam.go:110", after := #[{ on := 1, ground := Ground.data }], guard := none }) (v := .pointer (some ⟨b, 0, none⟩)) rfl (by kernel_rfl) (by kernel_rfl) (by kernel_rfl) (by kernel_rfl) (fun _ _ _ h => h) (Or.inl ⟨by rfl, fun w0 hS0 => ?_⟩) (by assumption) ?_
  · go_simp
  try simp only [Act.put, List.setIfInBounds_toArray, List.set_cons_zero, List.set_cons_succ]
  refine B.Till.take (i := 3) (oi := { dst := some 10, op := Op.load 29 (Operand.tmp 9), type := 29, pos := "roam.go:110", after := #[{ on := 2, ground := Ground.data }], guard := none }) (v := .pointer (some ⟨p, 0, none⟩)) rfl (by kernel_rfl) (by kernel_rfl) (by kernel_rfl) (by kernel_rfl) (fun _ _ _ h => h) (Or.inl ⟨by rfl, fun w0 hS0 => ?_⟩) (by assumption) ?_
  · have c0 := (HC1.out _ hS0).1; go_simp
  try simp only [Act.put, List.setIfInBounds_toArray, List.set_cons_zero, List.set_cons_succ]
  refine B.Till.take (i := 4) (oi := { dst := some 11, op := Op.move (Operand.tmp 0), type := 95, pos := "roam.go:110", after := #[], guard := none }) (v := .pointer (some ⟨b, 0, none⟩)) rfl (by kernel_rfl) (by kernel_rfl) (by kernel_rfl) (by kernel_rfl) (fun _ _ _ h => h) (Or.inl ⟨by rfl, fun w0 hS0 => ?_⟩) (by assumption) ?_
  · go_simp
  try simp only [Act.put, List.setIfInBounds_toArray, List.set_cons_zero, List.set_cons_succ]
  refine B.Till.take (i := 5) (oi := { dst := some 12, op := Op.nilCheck (Operand.tmp 11), type := 0, pos := "roam.go:110", after := #[{ on := 4, ground := Ground.data }], guard := none }) (v := .pointer (some ⟨b, 0, none⟩)) rfl (by kernel_rfl) (by kernel_rfl) (by kernel_rfl) (by kernel_rfl) (fun _ _ _ h => h) (Or.inl ⟨by rfl, fun w0 hS0 => ?_⟩) (by assumption) ?_
  · go_simp
  try simp only [Act.put, List.setIfInBounds_toArray, List.set_cons_zero, List.set_cons_succ]
  refine B.Till.take (i := 6) (oi := { dst := some 13, op := Op.fieldAddr 70 (Operand.tmp 12) 1, type := 0, pos := "roam.go:110", after := #[{ on := 5, ground := Ground.data }], guard := none }) (v := .pointer (some ⟨b, 1, none⟩)) rfl (by kernel_rfl) (by kernel_rfl) (by kernel_rfl) (by kernel_rfl) (fun _ _ _ h => h) (Or.inl ⟨by rfl, fun w0 hS0 => ?_⟩) (by assumption) ?_
  · go_simp
  try simp only [Act.put, List.setIfInBounds_toArray, List.set_cons_zero, List.set_cons_succ]
  refine B.Till.take (i := 7) (oi := { dst := some 14, op := Op.load 24 (Operand.tmp 13), type := 24, pos := "roam.go:110", after := #[{ on := 6, ground := Ground.data }], guard := none }) (v := .agg #[.int .i64 u, .int .i64 g]) rfl (by kernel_rfl) (by kernel_rfl) (by kernel_rfl) (by kernel_rfl) (fun _ _ _ h => h) (Or.inl ⟨by rfl, fun w0 hS0 => ?_⟩) (by assumption) ?_
  · have c0 := (HC1.out _ hS0).2.1; have c1 := (HC1.out _ hS0).2.2.1; go_simp
  try simp only [Act.put, List.setIfInBounds_toArray, List.set_cons_zero, List.set_cons_succ]
  refine B.Till.take (i := 8) (oi := { dst := some 15, op := Op.fieldAddr 42 (Operand.tmp 3) 0, type := 0, pos := "roam.go:110", after := #[], guard := none }) (v := .pointer (some ⟨B1, 0, none⟩)) rfl (by kernel_rfl) (by kernel_rfl) (by kernel_rfl) (by kernel_rfl) (fun _ _ _ h => h) (Or.inl ⟨by rfl, fun w0 hS0 => ?_⟩) (by assumption) ?_
  · go_simp
  try simp only [Act.put, List.setIfInBounds_toArray, List.set_cons_zero, List.set_cons_succ]
  refine B.Till.take (i := 9) (oi := { dst := some 16, op := Op.load 3 (Operand.tmp 15), type := 3, pos := "roam.go:110", after := #[{ on := 8, ground := Ground.data }], guard := none }) (v := .int .i64 v.id) rfl (by kernel_rfl) (by kernel_rfl) (by kernel_rfl) (by kernel_rfl) (fun _ _ _ h => h) (Or.inl ⟨by rfl, fun w0 hS0 => ?_⟩) (by assumption) ?_
  · have c0 := (HC1.out _ hS0).2.2.2.2; go_simp
  try simp only [Act.put, List.setIfInBounds_toArray, List.set_cons_zero, List.set_cons_succ]
  refine B.Till.take (i := 10) (oi := { dst := some 17, op := Op.move (Operand.tmp 0), type := 95, pos := "roam.go:110", after := #[], guard := none }) (v := .pointer (some ⟨b, 0, none⟩)) rfl (by kernel_rfl) (by kernel_rfl) (by kernel_rfl) (by kernel_rfl) (fun _ _ _ h => h) (Or.inl ⟨by rfl, fun w0 hS0 => ?_⟩) (by assumption) ?_
  · go_simp
  try simp only [Act.put, List.setIfInBounds_toArray, List.set_cons_zero, List.set_cons_succ]
  refine B.Till.take (i := 11) (oi := { dst := some 18, op := Op.nilCheck (Operand.tmp 17), type := 0, pos := "roam.go:110", after := #[{ on := 10, ground := Ground.data }], guard := none }) (v := .pointer (some ⟨b, 0, none⟩)) rfl (by kernel_rfl) (by kernel_rfl) (by kernel_rfl) (by kernel_rfl) (fun _ _ _ h => h) (Or.inl ⟨by rfl, fun w0 hS0 => ?_⟩) (by assumption) ?_
  · go_simp
  try simp only [Act.put, List.setIfInBounds_toArray, List.set_cons_zero, List.set_cons_succ]
  refine B.Till.take (i := 12) (oi := { dst := some 19, op := Op.fieldAddr 70 (Operand.tmp 18) 3, type := 0, pos := "roam.go:110", after := #[{ on := 11, ground := Ground.data }], guard := none }) (v := .pointer (some ⟨b, 4, none⟩)) rfl (by kernel_rfl) (by kernel_rfl) (by kernel_rfl) (by kernel_rfl) (fun _ _ _ h => h) (Or.inl ⟨by rfl, fun w0 hS0 => ?_⟩) (by assumption) ?_
  · go_simp
  try simp only [Act.put, List.setIfInBounds_toArray, List.set_cons_zero, List.set_cons_succ]
  refine B.Till.take (i := 13) (oi := { dst := some 20, op := Op.load 4 (Operand.tmp 19), type := 4, pos := "roam.go:110", after := #[{ on := 12, ground := Ground.data }], guard := none }) (v := .bool all) rfl (by kernel_rfl) (by kernel_rfl) (by kernel_rfl) (by kernel_rfl) (fun _ _ _ h => h) (Or.inl ⟨by rfl, fun w0 hS0 => ?_⟩) (by assumption) ?_
  · have c0 := (HC1.out _ hS0).2.2.2.1; go_simp
  try simp only [Act.put, List.setIfInBounds_toArray, List.set_cons_zero, List.set_cons_succ]
  refine B.Till.next (i := 14) (o := { dst := some 21, op := Op.call { callee := Callee.value (Operand.func 12), args := #[Operand.tmp 10, Operand.tmp 14, Operand.tmp 16, Operand.tmp 20], argTypes := #[29, 24, 3, 4] }, type := 46, pos := "roam.go:110", after := #[{ on := 3, ground := Ground.data }, { on := 7, ground := Ground.data }, { on := 9, ground := Ground.data }, { on := 13, ground := Ground.data }], guard := none }) (by kernel_rfl) rfl (fun K hK => ?_)
  go_simp
  refine (HSh.out _ (HW1.out.low.trans (hHeld.mono HW1.out.low.size))).mono ?_
  rintro e w3 ⟨lv, rfl, hl, hb⟩
  have hHz : Below w1.heap.size w1 w3 := hHeld.trans (hb.mono hHeld.size)
  have HL3 := Lib.hid hl
  have HB3 := Lib.hid hb
  clear hl hb
  go_wp2_with fail
  refine hK.out _ _ (fun _ => hHz) ?_
  clear hK K
  try simp only [Act.put, List.setIfInBounds_toArray, List.set_cons_zero, List.set_cons_succ]
  refine B.Till.take (i := 15) (oi := { dst := some 6, op := Op.move (Operand.tmp 21), type := 46, pos := "roam.go:110", after := #[{ on := 14, ground := Ground.data }], guard := none }) (v := .tuple #[lv, .int .i64 er]) rfl (by kernel_rfl) (by kernel_rfl) (by kernel_rfl) (by kernel_rfl) (fun _ _ _ h => h) (Or.inl ⟨by rfl, fun w0 hS0 => ?_⟩) (by assumption) ?_
  · go_simp
  try simp only [Act.put, List.setIfInBounds_toArray, List.set_cons_zero, List.set_cons_succ]
  refine B.Till.take (i := 16) (oi := { dst := some 22, op := Op.extract (Operand.tmp 6) 0, type := 45, pos := "roam.go:110", after := #[{ on := 15, ground := Ground.data }], guard := none }) (v := lv) rfl (by kernel_rfl) (by kernel_rfl) (by kernel_rfl) (by kernel_rfl) (fun _ _ _ h => h) (Or.inl ⟨by rfl, fun w0 hS0 => ?_⟩) (by assumption) ?_
  · go_simp
  try simp only [Act.put, List.setIfInBounds_toArray, List.set_cons_zero, List.set_cons_succ]
  refine B.Till.take (i := 17) (oi := { dst := some 23, op := Op.extract (Operand.tmp 6) 1, type := 40, pos := "roam.go:110", after := #[{ on := 15, ground := Ground.data }, { on := 18, ground := Ground.gcOnly Departure.lateStores }], guard := none }) (v := .int .i64 er) rfl (by kernel_rfl) (by kernel_rfl) (by kernel_rfl) (by kernel_rfl) (fun _ _ _ h => h) (Or.inl ⟨by rfl, fun w0 hS0 => ?_⟩) (by assumption) ?_
  · go_simp
  try simp only [Act.put, List.setIfInBounds_toArray, List.set_cons_zero, List.set_cons_succ]
  refine B.Till.next (i := 18) (o := { dst := some 4, op := Op.assign (Operand.tmp 22), type := 45, pos := "roam.go:110", after := #[{ on := 16, ground := Ground.data }, { on := 14, ground := Ground.chain }, { on := 0, ground := Ground.phase }, { on := 1, ground := Ground.phase }, { on := 2, ground := Ground.phase }, { on := 3, ground := Ground.phase }, { on := 4, ground := Ground.phase }, { on := 5, ground := Ground.phase }, { on := 6, ground := Ground.phase }, { on := 7, ground := Ground.phase }, { on := 8, ground := Ground.phase }, { on := 9, ground := Ground.phase }, { on := 10, ground := Ground.phase }, { on := 11, ground := Ground.phase }, { on := 12, ground := Ground.phase }, { on := 13, ground := Ground.phase }, { on := 14, ground := Ground.phase }, { on := 15, ground := Ground.phase }, { on := 16, ground := Ground.phase }, { on := 17, ground := Ground.textOnly Departure.lateStores }], guard := none }) (by kernel_rfl) rfl (fun K hK => ?_)
  go_simp
  refine hK.out _ _ (fun _ => hHz) ?_
  clear hK K
  try simp only [Act.put, List.setIfInBounds_toArray, List.set_cons_zero, List.set_cons_succ]
  refine B.Till.next (i := 19) (o := { dst := some 5, op := Op.assign (Operand.tmp 23), type := 40, pos := "roam.go:110", after := #[{ on := 17, ground := Ground.data }, { on := 18, ground := Ground.chain }, { on := 0, ground := Ground.phase }, { on := 1, ground := Ground.phase }, { on := 2, ground := Ground.phase }, { on := 3, ground := Ground.phase }, { on := 4, ground := Ground.phase }, { on := 5, ground := Ground.phase }, { on := 6, ground := Ground.phase }, { on := 7, ground := Ground.phase }, { on := 8, ground := Ground.phase }, { on := 9, ground := Ground.phase }, { on := 10, ground := Ground.phase }, { on := 11, ground := Ground.phase }, { on := 12, ground := Ground.phase }, { on := 13, ground := Ground.phase }, { on := 14, ground := Ground.phase }, { on := 15, ground := Ground.phase }, { on := 16, ground := Ground.phase }, { on := 17, ground := Ground.phase }, { on := 18, ground := Ground.phase }], guard := none }) (by kernel_rfl) rfl (fun K hK => ?_)
  go_simp
  refine hK.out _ _ (fun q => absurd rfl q) ?_
  clear hK K
  try simp only [Act.put, List.setIfInBounds_toArray, List.set_cons_zero, List.set_cons_succ]
  refine B.Till.done (by kernel_rfl) ?_
-- TILL 3 END
  have HWz := Lib.hid (HW1.out.keep hHz)
  have HXz := Lib.hid ((hHz.block _ (B.heap_lt HX1.out)).trans HX1.out)
  have HLw := Lib.hid (show W0.heap.size ≤ w1.drew.heap.size from HW1.out.low.size)
  clear hHeld hHz HC1 HSh HW1 HX1 HB3
  by_cases he : er = 0
  · obtain ⟨i0, hi0, hz0, hz1, hz2⟩ := info_parts infoOp
    have HLz := Lib.hid (HL3.out he)
    subst he
    have HE3 := Lib.hid (show EntsAt W0.heap.size w3 lv l from EntsAt.of_owns (by
      obtain ⟨q1, q2⟩ := HLz.out
      refine ⟨q1, ?_⟩
      rcases q2 with q | ⟨g', c', cur, q3, q4, q5⟩
      · exact .inl q
      · exact .inr ⟨g', c', cur, q3, Nat.le_trans HLw.out q4, q5⟩))
    obtain ⟨la, lc, hlv, _⟩ := HE3.out
    subst hlv
    have HVo := Lib.hid HE3.out.one
    have HRy := Lib.hid (show Ready W0 R nb nc b p u g most all S D sv vv v B1 w3 from ⟨HWz.out, HXz.out, HNe.out.1, HNe.out.2.1, HNe.out.2.2.1⟩)
    clear HL3 HLz HWz HXz HLw
    go_upto_region 5 with fail
-- TILL 2
    refine B.Till.region (z := 12) (S := fun w' => w'.heap[b]? = w3.heap[b]? ∧ w'.heap[B1]? = w3.heap[B1]?) (by kernel_rfl) ⟨rfl, rfl⟩ (fun hHeld => ?_)
    refine B.Till.take (i := 0) (oi := { dst := some 38, op := Op.move (Operand.tmp 0), type := 95, pos := "roam.go:116", after := #[], guard := none }) (v := .pointer (some ⟨b, 0, none⟩)) rfl (by kernel_rfl) (by kernel_rfl) (by kernel_rfl) (by kernel_rfl) (fun _ _ _ h => h) (Or.inl ⟨by rfl, fun w0 hS0 => ?_⟩) (by assumption) ?_
    · go_simp
    try simp only [Act.put, List.setIfInBounds_toArray, List.set_cons_zero, List.set_cons_succ]
    refine B.Till.take (i := 1) (oi := { dst := some 39, op := Op.move (Operand.tmp 0), type := 95, pos := "roam.go:116", after := #[], guard := none }) (v := .pointer (some ⟨b, 0, none⟩)) rfl (by kernel_rfl) (by kernel_rfl) (by kernel_rfl) (by kernel_rfl) (fun _ _ _ h => h) (Or.inl ⟨by rfl, fun w0 hS0 => ?_⟩) (by assumption) ?_
    · go_simp
    try simp only [Act.put, List.setIfInBounds_toArray, List.set_cons_zero, List.set_cons_succ]
    refine B.Till.take (i := 2) (oi := { dst := some 40, op := Op.nilCheck (Operand.tmp 39), type := 0, pos := "roam.go:116", after := #[{ on := 1, ground := Ground.data }], guard := none }) (v := .pointer (some ⟨b, 0, none⟩)) rfl (by kernel_rfl) (by kernel_rfl) (by kernel_rfl) (by kernel_rfl) (fun _ _ _ h => h) (Or.inl ⟨by rfl, fun w0 hS0 => ?_⟩) (by assumption) ?_
    · go_simp
    try simp only [Act.put, List.setIfInBounds_toArray, List.set_cons_zero, List.set_cons_succ]
    refine B.Till.take (i := 3) (oi := { dst := some 41, op := Op.fieldAddr 70 (Operand.tmp 40) 4, type := 0, pos := "roam.go:116", after := #[{ on := 2, ground := Ground.data }], guard := none }) (v := .pointer (some ⟨b, 5, none⟩)) rfl (by kernel_rfl) (by kernel_rfl) (by kernel_rfl) (by kernel_rfl) (fun _ _ _ h => h) (Or.inl ⟨by rfl, fun w0 hS0 => ?_⟩) (by assumption) ?_
    · go_simp
    try simp only [Act.put, List.setIfInBounds_toArray, List.set_cons_zero, List.set_cons_succ]
    refine B.Till.take (i := 4) (oi := { dst := some 42, op := Op.load 68 (Operand.tmp 41), type := 68, pos := "roam.go:116", after := #[{ on := 3, ground := Ground.data }], guard := none }) (v := sv) rfl (by kernel_rfl) (by kernel_rfl) (by kernel_rfl) (by kernel_rfl) (fun _ _ _ h => h) (Or.inl ⟨by rfl, fun w0 hS0 => ?_⟩) (by assumption) ?_
    · have c5 := (HRy.out.cb hS0.1).1; go_simp
    try simp only [Act.put, List.setIfInBounds_toArray, List.set_cons_zero, List.set_cons_succ]
    refine B.Till.take (i := 5) (oi := { dst := some 43, op := Op.load 42 (Operand.tmp 3), type := 42, pos := "roam.go:116", after := #[], guard := none }) (v := .agg #[.int .i64 v.id, .int .i64 v.depth, .string v.name, .string v.base, .bool v.last, .bool v.over, .int .i64 v.err]) rfl (by kernel_rfl) (by kernel_rfl) (by kernel_rfl) (by kernel_rfl) (fun _ _ _ h => h) (Or.inl ⟨by rfl, fun w0 hS0 => ?_⟩) (by assumption) ?_
    · obtain ⟨r0, r1, r2, r3, r4, r5, r6⟩ := HRy.out.cx hS0.2; go_simp
    try simp only [Act.put, List.setIfInBounds_toArray, List.set_cons_zero, List.set_cons_succ]
    refine B.Till.take (i := 6) (oi := { dst := some 44, op := Op.move (Operand.tmp 4), type := 45, pos := "roam.go:116", after := #[], guard := none }) (v := (.slice la l.length lc)) rfl (by kernel_rfl) (by kernel_rfl) (by kernel_rfl) (by kernel_rfl) (fun _ _ _ h => h) (Or.inl ⟨by rfl, fun w0 hS0 => ?_⟩) (by assumption) ?_
    · go_simp
    try simp only [Act.put, List.setIfInBounds_toArray, List.set_cons_zero, List.set_cons_succ]
    refine B.Till.take (i := 7) (oi := { dst := some 45, op := Op.build 97 #[(0, Operand.tmp 43), (1, Operand.tmp 44)], type := 97, pos := "roam.go:116", after := #[{ on := 5, ground := Ground.data }, { on := 6, ground := Ground.data }], guard := none }) (v := .agg #[.int .i64 v.id, .int .i64 v.depth, .string v.name, .string v.base, .bool v.last, .bool v.over, .int .i64 v.err, (.slice la l.length lc)]) rfl (by kernel_rfl) (by kernel_rfl) (by kernel_rfl) (by kernel_rfl) (fun _ _ _ h => h) (Or.inl ⟨by rfl, fun w0 hS0 => ?_⟩) (by assumption) ?_
    · go_simp
    try simp only [Act.put, List.setIfInBounds_toArray, List.set_cons_zero, List.set_cons_succ]
    refine B.Till.next (i := 8) (o := { dst := some 46, op := Op.buildSlice 68 1 #[(0, Operand.tmp 45)], type := 68, pos := "roam.go:116", after := #[{ on := 7, ground := Ground.data }], guard := none }) (by kernel_rfl) rfl (fun K hK => ?_)
    go_simp
    refine hK.out _ _ (fun _ => ⟨(heap_alloc_old _ _ HRy.out.lb).trans hHeld.1, (heap_alloc_old _ _ HRy.out.lx).trans hHeld.2⟩) ?_
    clear hK K
    try simp only [Act.put, List.setIfInBounds_toArray, List.set_cons_zero, List.set_cons_succ]
    refine B.Till.next (i := 9) (o := { dst := some 47, op := Op.call { callee := Callee.builtin Builtin.append, args := #[Operand.tmp 42, Operand.tmp 46], argTypes := #[68, 68] }, type := 68, pos := "roam.go:116", after := #[{ on := 4, ground := Ground.data }, { on := 8, ground := Ground.data }], guard := none }) (by kernel_rfl) rfl (fun K hK => ?_)
    refine step_append_lies _ rfl (.tmp 42) (.tmp 46) 68 rfl R 97 i0 _ 8 88 Tryz.underlying68 hi0 hz0 hz1 hz2 rfl (by decide) sv S.length (rowsC frC S.reverse) (by simp [Act.eval]) (HRy.out.wk.keep (drew_alloc _ _)).stk ⟨w3.heap.size, 0, none⟩ 1 1 (frC ⟨v, (.slice la l.length lc), l⟩) (by simp [Act.eval]) rfl (World.news_of_block (heap_alloc_new _ _)) (frC_one _ HVo.out) (by decide) (by unfold maxLen; omega) (by omega) (HRy.out.wk.keep (drew_alloc _ _)).rle _ rfl ?_
    intro g1 cap1 w4 hown hgrow hat hlt1
    have hS4 : w4.heap[b]? = w3.heap[b]? ∧ w4.heap[B1]? = w3.heap[B1]? := ⟨(hgrow.block _ (lt_drew_alloc HRy.out.lb _) HRy.out.neb').trans (heap_alloc_old _ _ HRy.out.lb), (hgrow.block _ (lt_drew_alloc HRy.out.lx _) HRy.out.nx').trans (heap_alloc_old _ _ HRy.out.lx)⟩
    have HW4 := Lib.hid ((HRy.out.wk.keep (drew_alloc _ _)).push (x := ⟨v, (.slice la l.length lc), l⟩) hown hgrow (HE3.out.keep (drew_alloc _ _)))
    clear hown hgrow hat hlt1
    refine hK.out _ _ (fun _ => hS4) ?_
    clear hK K
    try simp only [Act.put, List.setIfInBounds_toArray, List.set_cons_zero, List.set_cons_succ]
    refine B.Till.next (i := 10) (o := { dst := some 48, op := Op.nilCheck (Operand.tmp 38), type := 0, pos := "roam.go:116", after := #[{ on := 0, ground := Ground.data }, { on := 0, ground := Ground.phase }, { on := 1, ground := Ground.phase }, { on := 2, ground := Ground.phase }, { on := 3, ground := Ground.phase }, { on := 4, ground := Ground.phase }, { on := 5, ground := Ground.phase }, { on := 6, ground := Ground.phase }, { on := 7, ground := Ground.phase }, { on := 8, ground := Ground.phase }, { on := 9, ground := Ground.phase }], guard := none }) (by kernel_rfl) rfl (fun K hK => ?_)
    go_simp
    refine hK.out _ _ (fun _ => hS4) ?_
    clear hK K
    try simp only [Act.put, List.setIfInBounds_toArray, List.set_cons_zero, List.set_cons_succ]
    refine B.Till.next (i := 11) (o := { dst := some 49, op := Op.fieldAddr 70 (Operand.tmp 48) 4, type := 0, pos := "roam.go:116", after := #[{ on := 10, ground := Ground.data }, { on := 0, ground := Ground.phase }, { on := 1, ground := Ground.phase }, { on := 2, ground := Ground.phase }, { on := 3, ground := Ground.phase }, { on := 4, ground := Ground.phase }, { on := 5, ground := Ground.phase }, { on := 6, ground := Ground.phase }, { on := 7, ground := Ground.phase }, { on := 8, ground := Ground.phase }, { on := 9, ground := Ground.phase }], guard := none }) (by kernel_rfl) rfl (fun K hK => ?_)
    go_simp
    refine hK.out _ _ (fun _ => hS4) ?_
    clear hK K
    try simp only [Act.put, List.setIfInBounds_toArray, List.set_cons_zero, List.set_cons_succ]
    refine B.Till.next (i := 12) (o := { dst := none, op := Op.store 68 (Operand.tmp 49) (Operand.tmp 47), type := 0, pos := "roam.go:116", after := #[{ on := 11, ground := Ground.data }, { on := 9, ground := Ground.data }, { on := 9, ground := Ground.chain }, { on := 0, ground := Ground.phase }, { on := 1, ground := Ground.phase }, { on := 2, ground := Ground.phase }, { on := 3, ground := Ground.phase }, { on := 4, ground := Ground.phase }, { on := 5, ground := Ground.phase }, { on := 6, ground := Ground.phase }, { on := 7, ground := Ground.phase }, { on := 8, ground := Ground.phase }, { on := 9, ground := Ground.phase }], guard := none }) (by kernel_rfl) rfl (fun K hK => ?_)
    obtain ⟨c5, c6, f6⟩ := HRy.out.cb hS4.1
    have f5 := HRy.out.fb hS4.1
    go_simp
    refine hK.out _ _ (fun q => absurd rfl q) ?_
    clear hK K
    try simp only [Act.put, List.setIfInBounds_toArray, List.set_cons_zero, List.set_cons_succ]
    refine B.Till.done (by kernel_rfl) ?_
-- TILL 2 END
    go_wp2_with fail
    go_end0
    exact ⟨rfl, _, _, HW4.out⟩
  · have HE := Lib.hid he
    have e1 : (er != 0) = true := by simpa using he
    obtain ⟨i0, hi0, hz0, hz1, hz2⟩ := info_parts infoVis
    have f6 : w3.frozen? ⟨B1, 6, none⟩ = false := frozen_of_row _ _ _ _ _ HXz.out
    have c6 : w3.cell? ⟨B1, 6, none⟩ = some (.int .i64 v.err) := by rw [cell_of_row _ _ _ _ _ _ HXz.out]; rfl
    clear he HL3 HLw
    go_upto_region 4 with fail
    have HRy := Lib.hid (show Ready W0 R nb nc b p u g most all S D sv vv (errV v er) B1 (w3.setCell ⟨B1, 6, none⟩ (.int .i64 er)) from by
      obtain ⟨h1, h2, h3, h4, h5, h6, h7, h8, h9, h10⟩ := HWz.out
      refine ⟨⟨?_, B.owns_at h2 fun j hj => heap_setCell_other _ _ _ _ (HNe.out.2.2.1 j hj), B.owns_at h3 fun j hj => heap_setCell_other _ _ _ _ (HNe.out.2.1 j hj), fun y hy => (h4 y hy).at_ fun j cur _ hj => ?_, h5.setCell HNe.out.2.2.2.1 _, h6, by rw [heap_setCell_other _ _ _ _ HNe.out.2.2.2.2]; exact h7, h8, h9, by simpa [World.setCell] using h10⟩, ?_, HNe.out.1, HNe.out.2.1, HNe.out.2.2.1⟩
      · rw [heap_setCell_other _ _ _ _ (fun e => HNe.out.1 e.symm)]; exact h1
      · rw [heap_setCell_other _ _ _ _ (by rintro rfl; rw [HXz.out] at hj; simp at hj)]; exact hj
      · rw [heap_setCell_same _ _ _ _ _ _ HXz.out]; rfl)
    generalize w3.setCell ⟨B1, 6, none⟩ (.int .i64 er) = w5 at HRy ⊢
    clear f6 c6 HWz HXz e1
-- TILL 1
    refine B.Till.region (z := 10) (S := fun w' => w'.heap[b]? = w5.heap[b]? ∧ w'.heap[B1]? = w5.heap[B1]?) (by kernel_rfl) ⟨rfl, rfl⟩ (fun hHeld => ?_)
    refine B.Till.take (i := 0) (oi := { dst := some 28, op := Op.move (Operand.tmp 0), type := 95, pos := "roam.go:113", after := #[], guard := none }) (v := .pointer (some ⟨b, 0, none⟩)) rfl (by kernel_rfl) (by kernel_rfl) (by kernel_rfl) (by kernel_rfl) (fun _ _ _ h => h) (Or.inl ⟨by rfl, fun w0 hS0 => ?_⟩) (by assumption) ?_
    · go_simp
    try simp only [Act.put, List.setIfInBounds_toArray, List.set_cons_zero, List.set_cons_succ]
    refine B.Till.take (i := 1) (oi := { dst := some 29, op := Op.move (Operand.tmp 0), type := 95, pos := "roam.go:113", after := #[], guard := none }) (v := .pointer (some ⟨b, 0, none⟩)) rfl (by kernel_rfl) (by kernel_rfl) (by kernel_rfl) (by kernel_rfl) (fun _ _ _ h => h) (Or.inl ⟨by rfl, fun w0 hS0 => ?_⟩) (by assumption) ?_
    · go_simp
    try simp only [Act.put, List.setIfInBounds_toArray, List.set_cons_zero, List.set_cons_succ]
    refine B.Till.take (i := 2) (oi := { dst := some 30, op := Op.nilCheck (Operand.tmp 29), type := 0, pos := "roam.go:113", after := #[{ on := 1, ground := Ground.data }], guard := none }) (v := .pointer (some ⟨b, 0, none⟩)) rfl (by kernel_rfl) (by kernel_rfl) (by kernel_rfl) (by kernel_rfl) (fun _ _ _ h => h) (Or.inl ⟨by rfl, fun w0 hS0 => ?_⟩) (by assumption) ?_
    · go_simp
    try simp only [Act.put, List.setIfInBounds_toArray, List.set_cons_zero, List.set_cons_succ]
    refine B.Till.take (i := 3) (oi := { dst := some 31, op := Op.fieldAddr 70 (Operand.tmp 30) 5, type := 0, pos := "roam.go:113", after := #[{ on := 2, ground := Ground.data }], guard := none }) (v := .pointer (some ⟨b, 6, none⟩)) rfl (by kernel_rfl) (by kernel_rfl) (by kernel_rfl) (by kernel_rfl) (fun _ _ _ h => h) (Or.inl ⟨by rfl, fun w0 hS0 => ?_⟩) (by assumption) ?_
    · go_simp
    try simp only [Act.put, List.setIfInBounds_toArray, List.set_cons_zero, List.set_cons_succ]
    refine B.Till.take (i := 4) (oi := { dst := some 32, op := Op.load 38 (Operand.tmp 31), type := 38, pos := "roam.go:113", after := #[{ on := 3, ground := Ground.data }], guard := none }) (v := vv) rfl (by kernel_rfl) (by kernel_rfl) (by kernel_rfl) (by kernel_rfl) (fun _ _ _ h => h) (Or.inl ⟨by rfl, fun w0 hS0 => ?_⟩) (by assumption) ?_
    · have c6 := (HRy.out.cb hS0.1).2.1; go_simp
    try simp only [Act.put, List.setIfInBounds_toArray, List.set_cons_zero, List.set_cons_succ]
    refine B.Till.take (i := 5) (oi := { dst := some 33, op := Op.load 42 (Operand.tmp 3), type := 42, pos := "roam.go:113", after := #[], guard := none }) (v := .agg #[.int .i64 (errV v er).id, .int .i64 (errV v er).depth, .string (errV v er).name, .string (errV v er).base, .bool (errV v er).last, .bool (errV v er).over, .int .i64 (errV v er).err]) rfl (by kernel_rfl) (by kernel_rfl) (by kernel_rfl) (by kernel_rfl) (fun _ _ _ h => h) (Or.inl ⟨by rfl, fun w0 hS0 => ?_⟩) (by assumption) ?_
    · obtain ⟨r0, r1, r2, r3, r4, r5, r6⟩ := HRy.out.cx hS0.2; go_simp
    try simp only [Act.put, List.setIfInBounds_toArray, List.set_cons_zero, List.set_cons_succ]
    refine B.Till.next (i := 6) (o := { dst := some 34, op := Op.buildSlice 38 1 #[(0, Operand.tmp 33)], type := 38, pos := "roam.go:113", after := #[{ on := 5, ground := Ground.data }], guard := none }) (by kernel_rfl) rfl (fun K hK => ?_)
    go_simp
    refine hK.out _ _ (fun _ => ⟨(heap_alloc_old _ _ HRy.out.lb).trans hHeld.1, (heap_alloc_old _ _ HRy.out.lx).trans hHeld.2⟩) ?_
    clear hK K
    try simp only [Act.put, List.setIfInBounds_toArray, List.set_cons_zero, List.set_cons_succ]
    refine B.Till.next (i := 7) (o := { dst := some 35, op := Op.call { callee := Callee.builtin Builtin.append, args := #[Operand.tmp 32, Operand.tmp 34], argTypes := #[38, 38] }, type := 38, pos := "roam.go:113", after := #[{ on := 4, ground := Ground.data }, { on := 6, ground := Ground.data }], guard := none }) (by kernel_rfl) rfl (fun K hK => ?_)
    refine step_append_lies _ rfl (.tmp 32) (.tmp 34) 38 rfl R 42 i0 _ 7 64 Tryz.underlying38 hi0 hz0 hz1 hz2 rfl (by decide) vv D.length (rowsC visC D) (by simp [Act.eval]) (HRy.out.wk.keep (drew_alloc _ _)).vis ⟨w5.heap.size, 0, none⟩ 1 1 (visC (errV v er)) (by simp [Act.eval]) rfl (World.news_of_block (heap_alloc_new _ _)) (visC_one _) (by decide) (by unfold maxLen; omega) (by omega) (HRy.out.wk.keep (drew_alloc _ _)).rle _ rfl ?_
    intro g1 cap1 w4 hown hgrow hat hlt1
    have hS4 : w4.heap[b]? = w5.heap[b]? ∧ w4.heap[B1]? = w5.heap[B1]? := ⟨(hgrow.block _ (lt_drew_alloc HRy.out.lb _) HRy.out.neb).trans (heap_alloc_old _ _ HRy.out.lb), (hgrow.block _ (lt_drew_alloc HRy.out.lx _) HRy.out.nx).trans (heap_alloc_old _ _ HRy.out.lx)⟩
    have HW4 := Lib.hid ((HRy.out.wk.keep (drew_alloc _ _)).visit (E := [(errV v er)]) hown hgrow)
    clear hown hgrow hat hlt1
    refine hK.out _ _ (fun _ => hS4) ?_
    clear hK K
    try simp only [Act.put, List.setIfInBounds_toArray, List.set_cons_zero, List.set_cons_succ]
    refine B.Till.next (i := 8) (o := { dst := some 36, op := Op.nilCheck (Operand.tmp 28), type := 0, pos := "roam.go:113", after := #[{ on := 0, ground := Ground.data }, { on := 0, ground := Ground.phase }, { on := 1, ground := Ground.phase }, { on := 2, ground := Ground.phase }, { on := 3, ground := Ground.phase }, { on := 4, ground := Ground.phase }, { on := 5, ground := Ground.phase }, { on := 6, ground := Ground.phase }, { on := 7, ground := Ground.phase }], guard := none }) (by kernel_rfl) rfl (fun K hK => ?_)
    go_simp
    refine hK.out _ _ (fun _ => hS4) ?_
    clear hK K
    try simp only [Act.put, List.setIfInBounds_toArray, List.set_cons_zero, List.set_cons_succ]
    refine B.Till.next (i := 9) (o := { dst := some 37, op := Op.fieldAddr 70 (Operand.tmp 36) 5, type := 0, pos := "roam.go:113", after := #[{ on := 8, ground := Ground.data }, { on := 0, ground := Ground.phase }, { on := 1, ground := Ground.phase }, { on := 2, ground := Ground.phase }, { on := 3, ground := Ground.phase }, { on := 4, ground := Ground.phase }, { on := 5, ground := Ground.phase }, { on := 6, ground := Ground.phase }, { on := 7, ground := Ground.phase }], guard := none }) (by kernel_rfl) rfl (fun K hK => ?_)
    go_simp
    refine hK.out _ _ (fun _ => hS4) ?_
    clear hK K
    try simp only [Act.put, List.setIfInBounds_toArray, List.set_cons_zero, List.set_cons_succ]
    refine B.Till.next (i := 10) (o := { dst := none, op := Op.store 38 (Operand.tmp 37) (Operand.tmp 35), type := 0, pos := "roam.go:113", after := #[{ on := 9, ground := Ground.data }, { on := 7, ground := Ground.data }, { on := 7, ground := Ground.chain }, { on := 0, ground := Ground.phase }, { on := 1, ground := Ground.phase }, { on := 2, ground := Ground.phase }, { on := 3, ground := Ground.phase }, { on := 4, ground := Ground.phase }, { on := 5, ground := Ground.phase }, { on := 6, ground := Ground.phase }, { on := 7, ground := Ground.phase }], guard := none }) (by kernel_rfl) rfl (fun K hK => ?_)
    obtain ⟨_, c6, f6⟩ := HRy.out.cb hS4.1
    go_simp
    refine hK.out _ _ (fun q => absurd rfl q) ?_
    clear hK K
    try simp only [Act.put, List.setIfInBounds_toArray, List.set_cons_zero, List.set_cons_succ]
    refine B.Till.done (by kernel_rfl) ?_
-- TILL 1 END
    go_wp2_with fail
    exact bodyPost_ret (v := .tuple #[]) (by simp [results, Tryz.results26, go_sem]) rfl ⟨rfl, .inl ⟨HE.out, _, HW4.out⟩⟩
end
end Go.Proofs.YtcjbnjoomgagjaaGreatDoor.G
namespace Go.Proofs.YtcjbnjoomgagjaaGreatDoor.B
open Go.RowKit
section
variable {P : Program} {Q : Exit → Act → World → Prop}
def hops (J : Nat → Act → World → Prop) (Q : Exit → Act → World → Prop) (e : Exit) (a : Act) (w : World) : Prop :=
  match e with
  | .goto l => J l a w
  | e => Q e a w
theorem hops_ret {J : Nat → Act → World → Prop} {a : Act} {w : World} (h : Q .ret a w) : hops J Q .ret a w := h
theorem hops_goto {J : Nat → Act → World → Prop} {l : Nat} {a : Act} {w : World} (h : J l a w) : hops J Q (.goto l) a w := h
theorem wp_scope_hops {c : Code} (J : Nat → Act → World → Prop) (μ : Nat → Act → World → Nat) {a : Act} {w : World}
    (pass : ∀ l a w, J l a w → ∃ rest, findLabel c l = some rest ∧ rest.wp P (hops (fun l' a' w' => J l' a' w' ∧ μ l' a' w' < μ l a w) Q) a w)
    (start : c.wp P (hops J Q) a w) : (Code.scope c).wp P Q a w := by
  intro b k cs
  have onward : ∀ n l rest, findLabel c l = some rest → ∀ a w, μ l a w = n → J l a w → ∃ e a' w', Q e a' w' ∧ Arrives P (lone (b.at a (.code rest :: .inScope c :: k)) cs w) b k cs e a' w' := by
    intro n
    induction n using Nat.strongRecOn with
    | _ n ih =>
      intro l rest hl a w hn hJ
      obtain ⟨rest', hl', hw⟩ := pass l a w hJ
      obtain rfl : rest' = rest := Option.some.inj (hl'.symm.trans hl)
      obtain ⟨e, a1, w1, hq, hr⟩ := hw b (.inScope c :: k) cs
      cases e with
      | normal => exact ⟨.normal, a1, w1, hq, Steps.trans hr (.one step_inScope)⟩
      | exit id => exact ⟨.exit id, a1, w1, hq, fun k' hk => hr k' (by simp [exitTo, hk])⟩
      | goto l2 =>
        have hq' : J l2 a1 w1 ∧ μ l2 a1 w1 < μ l a w := hq
        obtain ⟨rest2, hl2, _⟩ := pass l2 a1 w1 hq'.1
        obtain ⟨e2, a2, w2, hq2, hr2⟩ := ih _ (by omega) l2 rest2 hl2 a1 w1 rfl hq'.1
        exact ⟨e2, a2, w2, hq2, .of_steps (hr _ (by simp [gotoIn, hl2])) hr2⟩
      | ret => exact ⟨_, a1, w1, hq, hr⟩
      | panic ch => exact ⟨_, a1, w1, hq, hr⟩
      | outgrown => exact ⟨_, a1, w1, hq, hr⟩
  obtain ⟨e, a1, w1, hq, hr⟩ := start b (.inScope c :: k) cs
  cases e with
  | normal => exact ⟨.normal, a1, w1, hq, .head step_scope (Steps.trans hr (.one step_inScope))⟩
  | exit id => exact ⟨.exit id, a1, w1, hq, fun k' hk => .head step_scope (hr k' (by simp [exitTo, hk]))⟩
  | goto l =>
    have hq' : J l a1 w1 := hq
    obtain ⟨rest, hl, _⟩ := pass l a1 w1 hq'
    obtain ⟨e2, a2, w2, hq2, hr2⟩ := onward _ l rest hl a1 w1 rfl hq'
    exact ⟨e2, a2, w2, hq2, .of_steps (.head step_scope (hr _ (by simp [gotoIn, hl]))) hr2⟩
  | ret => exact ⟨_, a1, w1, hq, .of_steps (.one step_scope) hr⟩
  | panic ch => exact ⟨_, a1, w1, hq, .of_steps (.one step_scope) hr⟩
  | outgrown => exact ⟨_, a1, w1, hq, .of_steps (.one step_scope) hr⟩
end
end Go.Proofs.YtcjbnjoomgagjaaGreatDoor.B
namespace Go.Proofs.YtcjbnjoomgagjaaGreatDoor.G
open Go.RowKit
def lenAt (w : World) (b : Nat) : Nat := match w.cell? ⟨b, 6, none⟩ with
  | some (.slice _ n _) => n
  | _ => 0
section
variable {T : Tr} {E : Int → Int} {W0 : World} {R nb : Nat} {nc : Array Value} {b p : Nat} {u g most : Int} {all : Bool} {S : List Fr} {D : List Vis} {sv vv : Value} {w : World}
theorem Wk.lenAt (h : Wk W0 R nb nc b p u g most all S D sv vv w) : lenAt w b = D.length := by
  have c6 := h.cell (j := 6) rfl
  obtain ⟨ao, cap, e⟩ := B.owns_form h.vis
  unfold G.lenAt
  rw [c6, e]
  rfl
theorem Wk.renow (h : Wk W0 R nb nc b p u g most all S D sv vv w) (hB : W0.heap.size ≤ nb) (nc' : Array Value) : Wk W0 R nb nc' b p u g most all S D sv vv (w.setRow nb nc') := by
  have hlt := h.lt
  refine ⟨?_, B.owns_at h.stk fun j hj => setRow_other _ _ _ _ ?_, B.owns_at h.vis fun j hj => setRow_other _ _ _ _ ?_, fun y hy => (h.ents y hy).at_ fun j cur _ hj => ?_, below_setRow h.low hB _, h.ge, setRow_heap _ _ _ _ _ _ h.now, h.lt, h.rge, by simpa [World.setRow] using h.rle⟩
  · rw [setRow_other _ _ _ _ (fun e => h.n_ne e.symm)]; exact h.head
  · have := (h.stk.lt j hj).1; omega
  · have := (h.vis.lt j hj).1; omega
  · rw [setRow_other _ _ _ _ (by rintro rfl; rw [h.now] at hj; simp at hj)]; exact hj
end
theorem then_normal {K : Act → World → Prop} {Q : Exit → Act → World → Prop} {a : Act} {w : World} (h : K a w) : Exit.then K Q .normal a w := h
def goodS (S : List Fr) : Prop := deepS S ∧ ∀ x ∈ S, x.v.name.size ≤ 90000 ∧ ∀ e ∈ x.l, e.1.size ≤ 1000
def WRel (T : Tr) (most : Int) (L : List Vis) (W0 : World) (R nb b p : Nat) (u g : Int) (all : Bool) (l : Nat) (w' : World) : Prop :=
  ∃ (S : List Fr) (D : List Vis) (sv vv : Value) (nc : Array Value), nc.size = 7 ∧ Hid (Wk W0 R nb nc b p u g (deepestI most) all S D sv vv w') ∧ Hid (goodS S) ∧
    ((l = 1 ∧ Hid (L = D ++ restV T most S)) ∨ (l = 0 ∧ ∃ v : Vis, nc = (visC (atV T v)).toArray ∧ Hid (v.depth = (S.length : Int) ∧ L = D ++ (wkV T most v ++ restV T most S))))
def JW (T : Tr) (most : Int) (L : List Vis) (W0 : World) (R nb b p : Nat) (u g : Int) (all : Bool) (l : Nat) (a : Act) (w' : World) : Prop :=
  ∃ u0 u1 u2 u3 u4 u5 u6 u7 u8 u9 u10 u11 u12 u13 u14 u17 u18 u19 u20 u21 u22 u23 u24 u25 u26 u27 u28 u29 u30 u31 u32 u33 u34 u35 u36 u37 u38 u39 u40 u41 u42 u43 u44 u45 u46 u47 u48 u49 u50 u51 u52 u53 u54 u55 : Value, WRel T most L W0 R nb b p u g all l w' ∧ a = { tmps := #[u0, u1, u2, u3, u4, u5, u6, u7, u8, u9, u10, u11, u12, u13, u14, .pointer (some ⟨b, 0, none⟩), .pointer (some ⟨nb, 0, none⟩), u17, u18, u19, u20, u21, u22, u23, u24, u25, u26, u27, u28, u29, u30, u31, u32, u33, u34, u35, u36, u37, u38, u39, u40, u41, u42, u43, u44, u45, u46, u47, u48, u49, u50, u51, u52, u53, u54, u55], defers := [] }
def muW (L : List Vis) (b : Nat) (l : Nat) (w : World) : Nat := 2 * (L.length - lenAt w b) + (if l = 1 then 1 else 0)
def IsPart (l : Nat) (r : Code) : Prop := ∃ r0 c, Tryz.f10.body = some (.seq r0 (.scope c)) ∧ findLabel c l = some (.seq .skip r)
def RetW (L : List Vis) (W0 : World) (R nb b : Nat) (a : Act) (w' : World) : Prop :=
  ∃ vv u0 u1 u2 u3 u4 u5 u6 u7 u8 u9 u10 u11 u13 u14 u17 u18 u19 u20 u21 u22 u23 u24 u25 u26 u27 u28 u29 u30 u31 u32 u33 u34 u35 u36 u37 u38 u39 u40 u41 u42 u43 u44 u45 u46 u47 u48 u49 u50 u51 u52 u53 u54 u55 : Value, w'.ownsRow R 42 7 vv L.length (rowsC visC L) ∧ Below W0.heap.size W0 w' ∧ a = { tmps := #[u0, u1, u2, u3, u4, u5, u6, u7, u8, u9, u10, u11, vv, u13, u14, .pointer (some ⟨b, 0, none⟩), .pointer (some ⟨nb, 0, none⟩), u17, u18, u19, u20, u21, u22, u23, u24, u25, u26, u27, u28, u29, u30, u31, u32, u33, u34, u35, u36, u37, u38, u39, u40, u41, u42, u43, u44, u45, u46, u47, u48, u49, u50, u51, u52, u53, u54, u55], defers := [] }
section
variable {T : Tr} {E : Int → Int} {W0 : World} {R nb : Nat} {b p : Nat} {u g most : Int} {all : Bool} {L : List Vis} {Q : Exit → Act → World → Prop}
set_option maxRecDepth 100000 in
set_option maxHeartbeats 8000000 in
theorem next_part (HT : Tel T E W0 p u g all) (hB : W0.heap.size ≤ nb) (hL : L.length ≤ 200000) (hN : ∀ x ∈ L, x.name.size ≤ 90000) {c : Code} (hc : IsPart 1 c) (a : Act) (w : World) (hJ : JW T most L W0 R nb b p u g all 1 a w)
    (hg : ∀ l2 a2 w2, JW T most L W0 R nb b p u g all l2 a2 w2 → muW L b l2 w2 < muW L b 1 w → Q (.goto l2) a2 w2) (hr : ∀ a2 w2, RetW L W0 R nb b a2 w2 → Q .ret a2 w2) : c.wp Tryz.prog Q a w := by
  obtain ⟨u0, u1, u2, u3, u4, u5, u6, u7, u8, u9, u10, u11, u12, u13, u14, u17, u18, u19, u20, u21, u22, u23, u24, u25, u26, u27, u28, u29, u30, u31, u32, u33, u34, u35, u36, u37, u38, u39, u40, u41, u42, u43, u44, u45, u46, u47, u48, u49, u50, u51, u52, u53, u54, u55, ⟨S, D, sv, vv, nc, hnc, HW, HS, hl⟩, rfl⟩ := hJ
  rcases hl with ⟨_, HL⟩ | ⟨h, _⟩
  case inr => cases h
  have HG := Lib.hid hg
  have HR := Lib.hid hr
  clear hg hr
  obtain ⟨r0, c0, hc1, hc2⟩ := hc
  cases hc1
  cases hc2
  cases S with
  | nil =>
    obtain ⟨ao, cap, hsv⟩ := B.owns_form HW.out.stk
    subst hsv
    have c5 : w.cell? ⟨b, 5, none⟩ = some (.slice ao 0 cap) := HW.out.cell (j := 5) rfl
    have c6 := HW.out.cell (j := 6) rfl
    have HLe := Lib.hid (show D = L from by rw [HL.out]; exact (List.append_nil D).symm)
    go_wp2_with fail
    refine HR.out _ _ ?_
    unfold RetW
    (repeat apply Exists.intro)
    refine ⟨?o, HW.out.low, rfl⟩
    case o => rw [← HLe.out]; exact HW.out.vis
  | cons x r =>
    have hS := HS.out
    obtain ⟨hdp, hgd⟩ := hS
    obtain ⟨hx1, hx2⟩ := hgd x List.mem_cons_self
    have hrl : r.length ≤ 1000 := by have := hdp.2.1; omega
    have HDp := Lib.hid hdp
    have HGd := Lib.hid hgd
    have HX := Lib.hid (And.intro hx1 hx2)
    clear hdp hgd hx1 hx2 HS
    obtain ⟨k, cap, hsv, _, _, _⟩ := HW.out.stack (by simp)
    rw [List.length_cons] at hsv
    subst hsv
    have c5 : w.cell? ⟨b, 5, none⟩ = some (.slice (some ⟨k, 0, none⟩) (r.length + 1) cap) := HW.out.cell (j := 5) rfl
    have d5 : (((r.length + 1 : Nat) : Int) == 0) = false := by rw [beq_eq_false_iff_ne]; omega
    have d6 : ((r.length : Int) + 1 == 0) = false := by rw [beq_eq_false_iff_ne]; omega
    have hDL : D.length < L.length := by
      rw [HL.out, List.length_append]
      have : 0 < (restV T most (x :: r)).length := by
        show 0 < (kidsV (wkV T most) x.v x.l ++ (overV x.v :: restV T most r)).length
        rw [List.length_append, List.length_cons]; omega
      omega
    have HDone := Lib.hid (done_any HW.out hrl)
    go_wp2_with fail
    refine HDone.out.mono ?_
    rintro e w2 ⟨rfl, hb⟩
    have HW2 := Lib.hid (HW.out.keep hb)
    have HLn := Lib.hid HW.out.lenAt
    clear hb HDone c5 d5 d6 HW
    obtain ⟨v, lv, l⟩ := x
    cases l with
    | nil =>
      have hd : decide (([] : List (ByteArray × Int)) = []) = true := rfl
      have HC := Lib.hid (close_any HW2.out hrl (by omega))
      rw [hd]
      go_wp2_with fail
      refine HC.out.mono ?_
      rintro e w3 ⟨rfl, sv', vv', h3⟩
      have HW3 := Lib.hid h3
      clear h3 HC
      go_wp2_with fail
      go_step3
      refine HG.out 1 _ _ ?jw ?mu
      case jw =>
        unfold JW
        (repeat apply Exists.intro)
        refine ⟨?rel, rfl⟩
        case rel => exact ⟨r, D ++ [overV v], sv', vv', nc, hnc, HW3, Lib.hid ⟨HDp.out.2.2, fun y hy => HGd.out y (List.mem_cons_of_mem _ hy)⟩, .inl ⟨rfl, Lib.hid (by rw [HL.out, rest_over, List.append_assoc]; rfl)⟩⟩
      case mu =>
        unfold muW
        rw [HLn.out, HW3.out.lenAt, List.length_append, if_pos rfl, List.length_singleton]
        omega
    | cons y l =>
      have hd : decide ((y :: l : List (ByteArray × Int)) = []) = false := rfl
      have HNx := Lib.hid (next_any HT HW2.out hrl HDp.out.1 (by have := HX.out.1; show v.name.size ≤ _; have h2 : v.name.size ≤ 90000 := HX.out.1; omega) (by have h2 := HX.out.2 y List.mem_cons_self; omega))
      rw [hd]
      go_wp2_with fail
      refine HNx.out.mono ?_
      rintro e w3 ⟨rfl, c, h3⟩
      have HW3 := Lib.hid h3
      have HW4 := Lib.hid (h3.renow hB (visC (atV T (kidV v y l.isEmpty))).toArray)
      clear h3 HNx
      go_wp2_with (refine wpList_store_row rfl 42 (.tmp 16) (.tmp 55) rfl nb (visC (atV T (kidV v y l.isEmpty))).toArray rfl rfl 42 _ HW3.out.now sizeVis hnc (all_oneCell_toArray (visC_one _)) ?_)
      go_step3
      refine HG.out 0 _ _ ?jw ?mu
      case jw =>
        unfold JW
        (repeat apply Exists.intro)
        refine ⟨?rel, rfl⟩
        case rel => exact ⟨⟨v, c, l⟩ :: r, D, _, vv, _, rfl, HW4, Lib.hid ⟨⟨HDp.out.1, HDp.out.2.1, HDp.out.2.2⟩, fun z hz => by
          rcases List.mem_cons.1 hz with rfl | hz
          · exact ⟨HX.out.1, fun e he => HX.out.2 e (List.mem_cons_of_mem _ he)⟩
          · exact HGd.out z (List.mem_cons_of_mem _ hz)⟩, .inr ⟨rfl, kidV v y l.isEmpty, rfl, Lib.hid ⟨by
            have h1 : v.depth = (r.length : Int) := HDp.out.1
            show v.depth + 1 = ((r.length + 1 : Nat) : Int)
            omega, by rw [HL.out, rest_next (b := c)]⟩⟩⟩
      case mu =>
        unfold muW
        rw [HLn.out, HW4.out.lenAt, if_pos rfl, if_neg (by decide)]
        omega
set_option maxRecDepth 100000 in
set_option maxHeartbeats 8000000 in
theorem visit_part (HT : Tel T E W0 p u g all) (hB : W0.heap.size ≤ nb) (hL : L.length ≤ 200000) (hN : ∀ x ∈ L, x.name.size ≤ 90000) (hE : ∀ d, ∀ e ∈ (T.shown d).2, e.1.size ≤ 1000) {c : Code} (hc : IsPart 0 c) (a : Act) (w : World) (hJ : JW T most L W0 R nb b p u g all 0 a w)
    (hg : ∀ l2 a2 w2, JW T most L W0 R nb b p u g all l2 a2 w2 → muW L b l2 w2 < muW L b 0 w → Q (.goto l2) a2 w2) (hr : ∀ a2 w2, RetW L W0 R nb b a2 w2 → Q .ret a2 w2) : c.wp Tryz.prog Q a w := by
  obtain ⟨u0, u1, u2, u3, u4, u5, u6, u7, u8, u9, u10, u11, u12, u13, u14, u17, u18, u19, u20, u21, u22, u23, u24, u25, u26, u27, u28, u29, u30, u31, u32, u33, u34, u35, u36, u37, u38, u39, u40, u41, u42, u43, u44, u45, u46, u47, u48, u49, u50, u51, u52, u53, u54, u55, ⟨S, D, sv, vv, nc, hnc, HW, HS, hl⟩, rfl⟩ := hJ
  rcases hl with ⟨h, _⟩ | ⟨_, v, hv, HL⟩
  case inl => cases h
  have HG := Lib.hid hg
  have HR := Lib.hid hr
  have HNm := Lib.hid hN
  have HEn := Lib.hid hE
  subst hv
  clear hg hr hN hE hnc
  obtain ⟨r0, c0, hc2, hc3⟩ := hc
  cases hc2
  cases hc3
  obtain ⟨vd, hvd⟩ : ∃ vd, atV T v = vd := ⟨_, rfl⟩
  have HVd := Lib.hid hvd
  rw [hvd] at HW
  clear hvd
  obtain ⟨i0, hi0, hz0, hz1, hz2⟩ := info_parts infoVis
  have HSl := Lib.hid (deepS_len HS.out.1)
  obtain ⟨rw0, hrw0⟩ := wk_pos T most v
  have HLv := Lib.hid (show L = D ++ (vd :: (rw0 ++ restV T most S)) from by rw [HL.out.2, hrw0, HVd.out]; rfl)
  have hDL : D.length < L.length := by rw [HLv.out, List.length_append, List.length_cons]; omega
  have HVn := Lib.hid (show vd.name.size ≤ 90000 from HNm.out vd (by rw [HLv.out]; exact List.mem_append_right _ List.mem_cons_self))
  clear hrw0 HLv
  have HA := Lib.hid (fun o => HW.out.keep ((Below.refl w.heap.size w).alloc (Nat.le_refl _) o))
  have HLn := Lib.hid HW.out.lenAt
  have HNe := Lib.hid (show some b ≠ vv.ownBlock from fun e => HW.out.v_ne e.symm rfl)
  have c6 := HW.out.cell (j := 6) rfl
  go_upto_region 7 with (first
    | (refine wpList_load_row rfl 42 (.tmp 16) rfl nb rfl 42 #[.int .i64 vd.id, .int .i64 vd.depth, .string vd.name, .string vd.base, .bool vd.last, .bool vd.over, .int .i64 vd.err] (0, 0) _ HW.out.now Tryz.underlying42 rfl sizeVis ?_)
    | (at_builtin; go_loud (refine wpList_append_lies _ rfl (.tmp 38) (.tmp 40) 38 rfl R 42 i0 _ 7 64 Tryz.underlying38 hi0 hz0 hz1 hz2 rfl (by decide) vv D.length (rowsC visC D) rfl (HA.out _).vis ⟨w.heap.size, 0, none⟩ 1 1 (visC vd) rfl rfl (World.news_of_block (heap_alloc_new _ _)) (visC_one _) (by decide) (by unfold maxLen; omega) (by omega) (HA.out _).rle _ rfl ?_; intro g1 cap1 w1 hown hgrow hat hlt1; have q1 := (hgrow.cell_far ⟨b, 6, none⟩ (B.heap_lt (HA.out _).head) HNe.out).trans ((HA.out _).cell (j := 6) rfl); have q2 := (hgrow.frozen_far ⟨b, 6, none⟩ (B.heap_lt (HA.out _).head) HNe.out).trans ((HA.out _).free 6); have HW1 := Lib.hid ((HA.out _).visit (E := [vd]) hown hgrow); clear hown hgrow hat)))
  generalize w1.setCell ⟨b, 6, none⟩ (.slice (some ⟨g1, 0, none⟩) (D.length + 1) cap1) = w2 at HW1 ⊢
  clear q1 q2 c6 HA HNe HW hlt1
  have HGo := Lib.hid (goes_any HT vd HW1.out)
  unfold visV at HGo
  go_wp2_with (refine wpList_load_row rfl 42 (.tmp 16) rfl nb rfl 42 #[.int .i64 vd.id, .int .i64 vd.depth, .string vd.name, .string vd.base, .bool vd.last, .bool vd.over, .int .i64 vd.err] (0, 0) _ HW1.out.now Tryz.underlying42 rfl sizeVis ?_)
  refine HGo.out.mono ?_
  rintro e w3 ⟨rfl, hb3⟩
  have HW3 := Lib.hid (HW1.out.keep hb3)
  clear hb3 HW1 HGo
  by_cases hd : (T.dir vd.id && decide (vd.depth < deepestI most)) = true
  · have HCd := Lib.hid (show T.dir (T.over v.id) = true ∧ deepB most v.depth = true from by
      rw [← HVd.out] at hd
      have h2 : (T.dir (T.over v.id) && decide (v.depth < deepestI most)) = true := hd
      rw [← deepest_deep, Bool.and_eq_true] at h2
      exact h2)
    have HOp := Lib.hid (open_any HT vd HW3.out (by have := HSl.out; omega) (by rw [List.length_append, List.length_singleton]; omega))
    unfold visV at HOp
    rw [hd]
    clear hd
    go_wp2_with (refine wpList_load_row rfl 42 (.tmp 16) rfl nb rfl 42 #[.int .i64 vd.id, .int .i64 vd.depth, .string vd.name, .string vd.base, .bool vd.last, .bool vd.over, .int .i64 vd.err] (0, 0) _ HW3.out.now Tryz.underlying42 rfl sizeVis ?_)
    refine HOp.out.mono ?_
    rintro e w4 ⟨rfl, hop⟩
    have HLd := Lib.hid (show (T.shown (T.over v.id)) = T.shown vd.id from by rw [← HVd.out]; rfl)
    clear HOp HW3
    rcases hop with ⟨he, vv', h4⟩ | ⟨he, lv, sv', h4⟩
    · have HW4 := Lib.hid h4
      have HE4 := Lib.hid he
      clear h4 he
      go_wp2_with fail
      go_step3
      refine then_normal ?_
      apply_assumption
      refine next_part HT hB hL HNm.out ⟨_, _, rfl, rfl⟩ _ _ ?jw1 (fun l2 a2 w2 hj hlt => HG.out l2 a2 w2 hj (Nat.lt_of_lt_of_le hlt ?mu1)) HR.out
      case jw1 =>
        unfold JW
        (repeat apply Exists.intro)
        refine ⟨?rel1, rfl⟩
        case rel1 => exact ⟨S, D ++ [vd] ++ [errV vd (T.shown vd.id).1], sv, vv', _, rfl, HW4, HS, .inl ⟨rfl, Lib.hid (by
          have h1 := wk_err (by have := HL.out.1; omega) (by have := HL.out.1; have := HSl.out; omega) HCd.out (by rw [HLd.out]; exact HE4.out)
          rw [HVd.out, HLd.out] at h1
          rw [HL.out.2, h1]
          simp)⟩⟩
      case mu1 =>
        unfold muW
        rw [HLn.out, HW4.out.lenAt, if_pos rfl, if_neg (by decide)]
        simp only [List.length_append, List.length_singleton]
        omega
    · have HW4 := Lib.hid h4
      have HE4 := Lib.hid he
      clear h4 he
      go_wp2_with fail
      go_step3
      refine then_normal ?_
      apply_assumption
      refine next_part HT hB hL HNm.out ⟨_, _, rfl, rfl⟩ _ _ ?jw2 (fun l2 a2 w2 hj hlt => HG.out l2 a2 w2 hj (Nat.lt_of_lt_of_le hlt ?mu2)) HR.out
      case jw2 =>
        unfold JW
        (repeat apply Exists.intro)
        refine ⟨?rel2, rfl⟩
        case rel2 => exact ⟨⟨vd, lv, (T.shown vd.id).2⟩ :: S, D ++ [vd], sv', _, _, rfl, HW4, Lib.hid ⟨⟨by
            have h1 : vd.depth = v.depth := by rw [← HVd.out]; rfl
            rw [h1]; exact HL.out.1, by have h1 := deep_lt HCd.out.2; have h2 := HL.out.1; omega, HS.out.1⟩, fun z hz => by
            rcases List.mem_cons.1 hz with rfl | hz
            · exact ⟨HVn.out, fun e he => HEn.out _ e he⟩
            · exact HS.out.2 z hz⟩, .inl ⟨rfl, Lib.hid (by
          have h1 := wk_dir (by have := HL.out.1; omega) (by have := HL.out.1; have := HSl.out; omega) HCd.out (by rw [HLd.out]; exact HE4.out)
          rw [HVd.out, HLd.out] at h1
          rw [HL.out.2, h1]
          show _ = D ++ [vd] ++ (kidsV (wkV T most) vd (T.shown vd.id).2 ++ (overV vd :: restV T most S))
          simp)⟩⟩
      case mu2 =>
        unfold muW
        rw [HLn.out, HW4.out.lenAt, if_pos rfl, if_neg (by decide)]
        simp only [List.length_append, List.length_singleton]
        omega
  · have HCd := Lib.hid (show ¬ (T.dir (T.over v.id) = true ∧ deepB most v.depth = true) from fun q => hd (by
      rw [← HVd.out]
      show (T.dir (T.over v.id) && decide (v.depth < deepestI most)) = true
      rw [← deepest_deep, Bool.and_eq_true]
      exact q))
    have hd2 : (T.dir vd.id && decide (vd.depth < deepestI most)) = false := by simpa using hd
    rw [hd2]
    clear hd hd2
    go_wp2_with fail
    go_step3
    refine then_normal ?_
    apply_assumption
    refine next_part HT hB hL HNm.out ⟨_, _, rfl, rfl⟩ _ _ ?jw3 (fun l2 a2 w2 hj hlt => HG.out l2 a2 w2 hj (Nat.lt_of_lt_of_le hlt ?mu3)) HR.out
    case jw3 =>
      unfold JW
      (repeat apply Exists.intro)
      refine ⟨?rel3, rfl⟩
      case rel3 => exact ⟨S, D ++ [vd], sv, _, _, rfl, HW3, HS, .inl ⟨rfl, Lib.hid (by
        have h1 := wk_leaf (by have := HL.out.1; omega) (by have := HL.out.1; have := HSl.out; omega) HCd.out
        rw [HVd.out] at h1
        rw [HL.out.2, h1]
        simp)⟩⟩
    case mu3 =>
      unfold muW
      rw [HLn.out, HW3.out.lenAt, if_pos rfl, if_neg (by decide)]
      simp only [List.length_append, List.length_singleton]
      omega
end
end Go.Proofs.YtcjbnjoomgagjaaGreatDoor.G
