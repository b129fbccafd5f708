/-
  What the walk's steps that ask the file system do: whether a node is gone into, the next entry; an entry's whole name. Conditions: what is asked answers as a tree does; names of at most 1000000 bytes.
  What the walk does where it opens a directory: puts it on the stack, or visits its error. Conditions: what is asked answers as a tree does; at most 1000000 visits.
-/
import Derived.Test.YtpikndeefiediaaGreatDoorKGDel
import Derived.Test.YtpikndeefiediaaGreatDoorShelf
import Derived.Deep.RegionWith
import Derived.Laws.ResultCell
set_option linter.unusedVariables false
set_option linter.unusedSimpArgs false
namespace Go.Proofs.YtpikndeefiediaaGreatDoor.G
open List renaming setIfInBounds_toArray → lt, set_cons_zero → l0, set_cons_succ → ls
open Go.RowKit

/-- What the walk asks for: what stands at a number, what covers it, what is shown of it; behind the walk's beginning. -/
structure Tel (T : Tr) (E : Int → Int) (W0 : World) (p : Nat) (u g : Int) (all : Bool) : Prop where
  node : ∀ i W, Below W0.heap.size W0 W → Calls Tryz.prog 7 #[.pointer (some ⟨p, 0, none⟩), .int .i64 i] W fun e w' => ∃ (n : P.Nv), e = .returned (.tuple #[P.nodeV n, .int .i64 (E i)]) ∧ (n.kind == 2) = T.dir i ∧ Below W.heap.size W w'
  over : ∀ i W, Below W0.heap.size W0 W → Calls Tryz.prog 9 #[.pointer (some ⟨p, 0, none⟩), .int .i64 i] W fun e w' => e = .returned (.int .i64 (T.over i)) ∧ w' = W
  shown : ∀ i W, Below W0.heap.size W0 W → Calls Tryz.prog 51 #[.pointer (some ⟨p, 0, none⟩), P.credV u g, .int .i64 i, .bool all] W fun e w' => ∃ v, e = .returned (.tuple #[v, .int .i64 (T.shown i).1]) ∧ ((T.shown i).1 = 0 → w'.ownsRow W.heap.size 45 2 v (T.shown i).2.length (rowsC enC' (T.shown i).2)) ∧ Below W.heap.size W w'

theorem below_setRow {B g : Nat} {a w : World} (h : Below B a w) (hg : B ≤ g) (cs : Array Value) : Below B a (w.setRow g cs) :=
  ⟨h.os, h.tape, h.output, by have := h.size; simp [World.setRow]; omega, fun k hk => by rw [setRow_other _ _ _ _ (by omega)]; exact h.block k hk⟩
theorem step_store_row {ops : Array Oper} {o : Oper} {a : Act} {w : World} {K : Act → World → Prop} {Q : Exit → Act → World → Prop} {E : Prop} (hgd : o.guard = none) (ty : TypeId) (x y : Operand) (ho : o.op = .store ty x y)
    (g : Nat) (cells : Array Value) (hx : a.eval x = .pointer (some ⟨g, 0, none⟩)) (hy : a.eval y = .agg cells)
    (t : TypeId) (old : Array Value) (hg : w.heap[g]? = some (.cells old t (0, 0))) (hi : (Tryz.prog.info? ty).map (·.size) = some cells.size)
    (hold : old.size = cells.size) (h1 : cells.all (·.oneCell') = true) (h : K (a.put o.dst undef) (w.setRow g cells)) :
    if Region.wanted o (yielded ops a.tmps) = true then Oper.wp Tryz.prog o a w K Q else E := by
  have hw : Region.wanted o (yielded ops a.tmps) = true := by simp [Region.wanted, hgd]
  rw [if_pos hw]
  exact wp_store_row ty x y ho g cells hx hy t old hg hi hold h1 h
theorem sizeNode : (Tryz.prog.info? 36).map (·.size) = some 13 := by kernel_rfl
def nodeC (n : P.Nv) : Array Value := #[.int .i64 n.dev, .int .i64 n.ino, .int .i64 n.kind, .int .i64 n.mode, .int .i64 n.uid, .int .i64 n.gid, .int .i64 n.size, .int .i64 n.blocks, .int .i64 n.links, .int .i64 n.ta, .int .i64 n.tb, .int .i64 n.tc, .string n.target]
theorem nodeC_one (n : P.Nv) : (nodeC n).all (·.oneCell') = true := by unfold nodeC; simp [Value.oneCell']
def nodeZ : Array Value := #[.int .i64 0, .int .i64 0, .int .i64 0, .int .i64 0, .int .i64 0, .int .i64 0, .int .i64 0, .int .i64 0, .int .i64 0, .int .i64 0, .int .i64 0, .int .i64 0, .string ⟨#[]⟩]
theorem deepest_any (m : Int) (w : World) :
    Calls Tryz.prog 31 #[.int .i64 m] w fun e w' => e = .returned (.int .i64 (deepestI m)) ∧ w' = w := by
  have HR := Lib.hid (show deepestI m = if m < 0 then 100 else if m < 100 then m else 100 from rfl)
  by_cases h1 : m < 0
  · have d1 : decide (m < 0) = true := decide_eq_true h1
    rw [if_pos h1] at HR
    go_enter Tryz.func31, Tryz.ntmps31
    go_wp2_with fail
    go_ret
    exact ⟨by rw [HR.out]; rfl, rfl⟩
  · have d1 : decide (m < 0) = false := decide_eq_false h1
    rw [if_neg h1] at HR
    clear h1
    go_enter Tryz.func31, Tryz.ntmps31
    go_wp2_with fail
    all_goals go_ret
    all_goals (refine ⟨?_, rfl⟩; rw [HR.out]; simp; try omega)

theorem slash_last (l : List UInt8) : Lib.hasSuffix l [47] = decide (l.getLast? = some 47) := by
  unfold Lib.hasSuffix
  rcases List.eq_nil_or_concat l with rfl | ⟨r, a, rfl⟩
  · rfl
  · simp [List.isSuffixOf, List.isPrefixOf]
    rw [Bool.eq_iff_iff]
    exact ⟨fun h => decide_eq_true (beq_iff_eq.1 h).symm, fun h => beq_iff_eq.2 (of_decide_eq_true h).symm⟩
set_option maxHeartbeats 1000000 in
theorem join_any (a n : ByteArray) (w : World) (ha : a.size ≤ 1000000) (hn : n.size ≤ 1000000) :
    Calls Tryz.prog 53 #[.string a, .string n] w fun e w' => e = .returned (.string (slashN a ++ n)) ∧ w' = w := by
  have HS := Lib.hid (Tryz.strings_HasSuffix a ⟨#[47]⟩ w (by omega))
  have hs : Lib.hasSuffix a.data.toList (⟨#[47]⟩ : ByteArray).data.toList = decide (a.data.toList.getLast? = some 47) := slash_last _
  rw [hs] at HS
  have HR := Lib.hid (show slashN a = if a.data.toList.getLast? = some 47 then a else a ++ ⟨#[47]⟩ from rfl)
  have hz : (a ++ ⟨#[47]⟩ : ByteArray).size = a.size + 1 := by rw [ByteArray.size_append]; rfl
  clear hs
  by_cases h : a.data.toList.getLast? = some 47
  · rw [decide_eq_true h] at HS
    rw [if_pos h] at HR
    clear h
    go_enter Tryz.func53, Tryz.ntmps53
    go_wp2_with (go_at_call 66; refine HS.out.mono ?_; rintro e w3 ⟨rfl, hw⟩; subst hw)
    go_ret
    exact ⟨by rw [HR.out]; rfl, rfl⟩
  · rw [decide_eq_false h] at HS
    rw [if_neg h] at HR
    clear h
    go_enter Tryz.func53, Tryz.ntmps53
    go_wp2_with (go_at_call 66; refine HS.out.mono ?_; rintro e w3 ⟨rfl, hw⟩; subst hw)
    go_ret
    exact ⟨by rw [HR.out]; rfl, rfl⟩

section
variable {T : Tr} {E : Int → Int} {W0 : World} {R nb : Nat} {nc : Array Value} {b p : Nat} {u g most : Int} {all : Bool} {S : List Fr} {D : List Vis} {sv vv : Value} {w : World}
set_option maxRecDepth 100000 in
set_option maxHeartbeats 4000000 in
theorem goes_any (HT : Tel T E W0 p u g all) (v : Vis) (h : Wk W0 R nb nc b p u g most all S D sv vv w) :
    Calls Tryz.prog 32 #[.pointer (some ⟨b, 0, none⟩), visV v] w fun e w' => e = .returned (.bool (T.dir v.id && decide (v.depth < most))) ∧ Below w.heap.size w w' := by
  have HN := Lib.hid (fun W (hb : Below w.heap.size w W) => HT.node v.id W (h.low.trans (hb.mono h.low.size)))
  have HH := Lib.hid (show ∀ W, Below w.heap.size w W → W.cell? ⟨b, 0, none⟩ = some (.pointer (some ⟨p, 0, none⟩)) ∧ W.cell? ⟨b, 3, none⟩ = some (.int .i64 most) from fun W hb => ⟨(h.keep hb).cell (j := 0) rfl, (h.keep hb).cell (j := 3) rfl⟩)
  clear HT h
  unfold visV
  go_enter Tryz.func32, Tryz.ntmps32
  go_upto_region 1 with fail
  have HB1 := Lib.hid ((Below.refl w.heap.size w).alloc (Nat.le_refl _) (.cells #[.int .i64 v.id, .int .i64 v.depth, .string v.name, .string v.base, .bool v.last, .bool v.over, .int .i64 v.err] 82))
  have HX1 := Lib.hid (heap_alloc_new w (.cells #[.int .i64 v.id, .int .i64 v.depth, .string v.name, .string v.base, .bool v.last, .bool v.over, .int .i64 v.err] 82))
  generalize w.alloc (.cells #[.int .i64 v.id, .int .i64 v.depth, .string v.name, .string v.base, .bool v.last, .bool v.over, .int .i64 v.err] 82) = w1 at HB1 HX1 ⊢
  have HC := Lib.hid (show ∀ W, Below w1.heap.size w1 W → (W.cell? ⟨b, 0, none⟩ = some (.pointer (some ⟨p, 0, none⟩)) ∧ W.cell? ⟨b, 3, none⟩ = some (.int .i64 most)) ∧ W.cell? ⟨w.heap.size, 0, none⟩ = some (.int .i64 v.id) ∧ W.cell? ⟨w.heap.size, 1, none⟩ = some (.int .i64 v.depth) from fun W hb => by
    have q := (hb.block _ (B.heap_lt HX1.out)).trans HX1.out
    refine ⟨HH.out W (HB1.out.trans (hb.mono HB1.out.size)), ?_, ?_⟩ <;> (rw [cell_of_row _ _ _ _ _ _ q]; rfl))
  go_cut [5, 6] from 7 to 17 (fun a5 a6 wx => ∃ (n : P.Nv) (er : Int) (B5 : Nat), a5 = .pointer (some ⟨B5, 0, none⟩) ∧ a6 = .int .i64 er ∧ (n.kind == 2) = T.dir v.id ∧ wx.heap[B5]? = some (.cells (nodeC n) 36 (0, 0)) ∧ Below w1.heap.size w1 wx)
  case first =>
-- TILL 1
    refine B.Till.region (z := 12) (S := fun w' => Below w1.heap.size w1 w') (by kernel_rfl) ((Below.refl _ _).drew) (fun hHeld => ?_)
    refine B.Till.take (i := 0) (oi := ⟨some 8, .move (.tmp 0), 110, "roam.go:104", #[], none⟩) (v := .pointer (some ⟨b, 0, none⟩)) rfl (by kernel_rfl) (by kernel_rfl) (by kernel_rfl) (by kernel_rfl) (fun _ _ _ h => h) (Or.inl ⟨by rfl, fun w0 hS0 => ?_⟩) (by assumption) ?_
    · go_simp
    try simp only [Act.put, lt, l0, ls]
    refine B.Till.take (i := 1) (oi := ⟨some 9, .nilCheck (.tmp 8), 0, "roam.go:104", #[⟨0, .data⟩], none⟩) (v := .pointer (some ⟨b, 0, none⟩)) rfl (by kernel_rfl) (by kernel_rfl) (by kernel_rfl) (by kernel_rfl) (fun _ _ _ h => h) (Or.inl ⟨by rfl, fun w0 hS0 => ?_⟩) (by assumption) ?_
    · go_simp
    try simp only [Act.put, lt, l0, ls]
    refine B.Till.take (i := 2) (oi := ⟨some 10, .fieldAddr 95 (.tmp 9) 0, 0, "roam.go:104", #[⟨1, .data⟩], none⟩) (v := .pointer (some ⟨b, 0, none⟩)) rfl (by kernel_rfl) (by kernel_rfl) (by kernel_rfl) (by kernel_rfl) (fun _ _ _ h => h) (Or.inl ⟨by rfl, fun w0 hS0 => ?_⟩) (by assumption) ?_
    · go_simp
    try simp only [Act.put, lt, l0, ls]
    refine B.Till.take (i := 3) (oi := ⟨some 11, .load 25 (.tmp 10), 25, "roam.go:104", #[⟨2, .data⟩], none⟩) (v := .pointer (some ⟨p, 0, none⟩)) rfl (by kernel_rfl) (by kernel_rfl) (by kernel_rfl) (by kernel_rfl) (fun _ _ _ h => h) (Or.inl ⟨by rfl, fun w0 hS0 => ?_⟩) (by assumption) ?_
    · have c0 := (HC.out _ hS0).1.1; go_simp
    try simp only [Act.put, lt, l0, ls]
    refine B.Till.take (i := 4) (oi := ⟨some 12, .fieldAddr 82 (.tmp 3) 0, 0, "roam.go:104", #[], none⟩) (v := .pointer (some ⟨w.heap.size, 0, none⟩)) rfl (by kernel_rfl) (by kernel_rfl) (by kernel_rfl) (by kernel_rfl) (fun _ _ _ h => h) (Or.inl ⟨by rfl, fun w0 hS0 => ?_⟩) (by assumption) ?_
    · go_simp
    try simp only [Act.put, lt, l0, ls]
    refine B.Till.take (i := 5) (oi := ⟨some 13, .load 3 (.tmp 12), 3, "roam.go:104", #[⟨4, .data⟩], none⟩) (v := .int .i64 v.id) rfl (by kernel_rfl) (by kernel_rfl) (by kernel_rfl) (by kernel_rfl) (fun _ _ _ h => h) (Or.inl ⟨by rfl, fun w0 hS0 => ?_⟩) (by assumption) ?_
    · have c0 := (HC.out _ hS0).2.1; go_simp
    try simp only [Act.put, lt, l0, ls]
    refine B.Till.two (i := 6) (j := 10) (o := ⟨some 14, .call ⟨.value (.func 7), #[.tmp 11, .tmp 13], #[25, 3]⟩, 38, "roam.go:104", #[⟨3, .data⟩, ⟨5, .data⟩], none⟩) (o' := ⟨some 5, .alloc 36, 0, "roam.go:104", #[], none⟩) (by kernel_rfl) rfl rfl (fun K hK => ?_) (fun K hK => ?_)
    · go_simp
      refine (HN.out _ (HB1.out.trans (hHeld.mono HB1.out.size))).mono ?_
      rintro e w6 ⟨n, rfl, hk6, hb6⟩
      have hH6 : Below w1.heap.size w1 w6 := hHeld.trans (hb6.mono hHeld.size)
      go_wp2_with fail
      refine hK.out _ _ (fun _ => hH6) ?_
      clear hK K
      try simp only [Act.put, lt, l0, ls]
      refine B.Till.take (i := 7) (oi := ⟨some 7, .move (.tmp 14), 38, "roam.go:104", #[⟨6, .data⟩], none⟩) (v := .tuple #[P.nodeV n, .int .i64 (E v.id)]) rfl (by kernel_rfl) (by kernel_rfl) (by kernel_rfl) (by kernel_rfl) (fun _ _ _ h => h) (Or.inl ⟨by rfl, fun w0 hS0 => ?_⟩) (by assumption) ?_
      · go_simp
      try simp only [Act.put, lt, l0, ls]
      refine B.Till.take (i := 8) (oi := ⟨some 15, .extract (.tmp 7) 0, 36, "roam.go:104", #[⟨7, .data⟩], none⟩) (v := P.nodeV n) rfl (by kernel_rfl) (by kernel_rfl) (by kernel_rfl) (by kernel_rfl) (fun _ _ _ h => h) (Or.inl ⟨by rfl, fun w0 hS0 => ?_⟩) (by assumption) ?_
      · go_simp
      try simp only [Act.put, lt, l0, ls]
      refine B.Till.take (i := 9) (oi := ⟨some 16, .extract (.tmp 7) 1, 37, "roam.go:104", #[⟨7, .data⟩, ⟨11, .gcOnly .lateStores⟩], none⟩) (v := .int .i64 (E v.id)) rfl (by kernel_rfl) (by kernel_rfl) (by kernel_rfl) (by kernel_rfl) (fun _ _ _ h => h) (Or.inl ⟨by rfl, fun w0 hS0 => ?_⟩) (by assumption) ?_
      · go_simp
      try simp only [Act.put, lt, l0, ls]
      refine B.Till.next (i := 10) (o := ⟨some 5, .alloc 36, 0, "roam.go:104", #[], none⟩) (by kernel_rfl) rfl (fun K hK => ?_)
      go_simp
      refine hK.out _ _ (fun _ => hH6.alloc hH6.size _) ?_
      clear hK K
      try simp only [Act.put, lt, l0, ls]
      have hH7 := hH6.alloc hH6.size (.cells nodeZ 36)
      refine B.Till.next (i := 11) (o := ⟨none, .store 36 (.tmp 5) (.tmp 15), 0, "roam.go:104", #[⟨10, .data⟩, ⟨8, .data⟩, ⟨6, .chain⟩, ⟨0, .phase⟩, ⟨1, .phase⟩, ⟨2, .phase⟩, ⟨3, .phase⟩, ⟨4, .phase⟩, ⟨5, .phase⟩, ⟨6, .phase⟩, ⟨7, .phase⟩, ⟨8, .phase⟩, ⟨9, .textOnly .lateStores⟩, ⟨10, .phase⟩], none⟩) (by kernel_rfl) rfl (fun K hK => ?_)
      refine step_store_row rfl 36 (.tmp 5) (.tmp 15) rfl w6.heap.size (nodeC n) rfl rfl 36 _ (heap_alloc_new _ _) sizeNode rfl (nodeC_one n) ?_
      refine hK.out _ _ (fun _ => (below_setRow hH7 hH6.size _)) ?_
      clear hK K
      try simp only [Act.put, lt, l0, ls]
      refine B.Till.next (i := 12) (o := ⟨some 6, .assign (.tmp 16), 37, "roam.go:104", #[⟨9, .data⟩, ⟨11, .chain⟩, ⟨0, .phase⟩, ⟨1, .phase⟩, ⟨2, .phase⟩, ⟨3, .phase⟩, ⟨4, .phase⟩, ⟨5, .phase⟩, ⟨6, .phase⟩, ⟨7, .phase⟩, ⟨8, .phase⟩, ⟨9, .phase⟩, ⟨10, .phase⟩, ⟨11, .phase⟩], none⟩) (by kernel_rfl) rfl (fun K hK => ?_)
      go_simp
      refine hK.out _ _ (fun q => absurd rfl q) ?_
      clear hK K
      try simp only [Act.put, lt, l0, ls]
      refine B.Till.done (by kernel_rfl) ?_
      go_wp2_with fail
      go_meet
      exact ⟨n, E v.id, w6.heap.size, rfl, rfl, hk6, setRow_heap _ _ _ _ _ _ (heap_alloc_new _ _), (below_setRow hH7 hH6.size _)⟩
    · go_simp
      refine hK.out _ _ (fun _ => hHeld.alloc hHeld.size _) ?_
      clear hK K
      try simp only [Act.put, lt, l0, ls]
      have hH7 := hHeld.alloc hHeld.size (.cells nodeZ 36)
      have HX7 := heap_alloc_new w1.drew (.cells nodeZ 36)
      refine B.Till.next (i := 6) (o := ⟨some 14, .call ⟨.value (.func 7), #[.tmp 11, .tmp 13], #[25, 3]⟩, 38, "roam.go:104", #[⟨3, .data⟩, ⟨5, .data⟩], none⟩) (by kernel_rfl) rfl (fun K hK => ?_)
      go_simp
      refine (HN.out _ (HB1.out.trans (hH7.mono HB1.out.size))).mono ?_
      rintro e w6 ⟨n, rfl, hk6, hb6⟩
      have hH6 : Below w1.heap.size w1 w6 := hH7.trans (hb6.mono hH7.size)
      have HX6 := (hb6.block _ (B.heap_lt HX7)).trans HX7
      go_wp2_with fail
      refine hK.out _ _ (fun _ => hH6) ?_
      clear hK K
      try simp only [Act.put, lt, l0, ls]
      refine B.Till.take (i := 7) (oi := ⟨some 7, .move (.tmp 14), 38, "roam.go:104", #[⟨6, .data⟩], none⟩) (v := .tuple #[P.nodeV n, .int .i64 (E v.id)]) rfl (by kernel_rfl) (by kernel_rfl) (by kernel_rfl) (by kernel_rfl) (fun _ _ _ h => h) (Or.inl ⟨by rfl, fun w0 hS0 => ?_⟩) (by assumption) ?_
      · go_simp
      try simp only [Act.put, lt, l0, ls]
      refine B.Till.take (i := 8) (oi := ⟨some 15, .extract (.tmp 7) 0, 36, "roam.go:104", #[⟨7, .data⟩], none⟩) (v := P.nodeV n) rfl (by kernel_rfl) (by kernel_rfl) (by kernel_rfl) (by kernel_rfl) (fun _ _ _ h => h) (Or.inl ⟨by rfl, fun w0 hS0 => ?_⟩) (by assumption) ?_
      · go_simp
      try simp only [Act.put, lt, l0, ls]
      refine B.Till.take (i := 9) (oi := ⟨some 16, .extract (.tmp 7) 1, 37, "roam.go:104", #[⟨7, .data⟩, ⟨11, .gcOnly .lateStores⟩], none⟩) (v := .int .i64 (E v.id)) rfl (by kernel_rfl) (by kernel_rfl) (by kernel_rfl) (by kernel_rfl) (fun _ _ _ h => h) (Or.inl ⟨by rfl, fun w0 hS0 => ?_⟩) (by assumption) ?_
      · go_simp
      try simp only [Act.put, lt, l0, ls]
      refine B.Till.next (i := 11) (o := ⟨none, .store 36 (.tmp 5) (.tmp 15), 0, "roam.go:104", #[⟨10, .data⟩, ⟨8, .data⟩, ⟨6, .chain⟩, ⟨0, .phase⟩, ⟨1, .phase⟩, ⟨2, .phase⟩, ⟨3, .phase⟩, ⟨4, .phase⟩, ⟨5, .phase⟩, ⟨6, .phase⟩, ⟨7, .phase⟩, ⟨8, .phase⟩, ⟨9, .textOnly .lateStores⟩, ⟨10, .phase⟩], none⟩) (by kernel_rfl) rfl (fun K hK => ?_)
      refine step_store_row rfl 36 (.tmp 5) (.tmp 15) rfl w1.heap.size (nodeC n) rfl rfl 36 _ HX6 sizeNode rfl (nodeC_one n) ?_
      refine hK.out _ _ (fun _ => (below_setRow hH6 (Nat.le_refl _) _)) ?_
      clear hK K
      try simp only [Act.put, lt, l0, ls]
      refine B.Till.next (i := 12) (o := ⟨some 6, .assign (.tmp 16), 37, "roam.go:104", #[⟨9, .data⟩, ⟨11, .chain⟩, ⟨0, .phase⟩, ⟨1, .phase⟩, ⟨2, .phase⟩, ⟨3, .phase⟩, ⟨4, .phase⟩, ⟨5, .phase⟩, ⟨6, .phase⟩, ⟨7, .phase⟩, ⟨8, .phase⟩, ⟨9, .phase⟩, ⟨10, .phase⟩, ⟨11, .phase⟩], none⟩) (by kernel_rfl) rfl (fun K hK => ?_)
      go_simp
      refine hK.out _ _ (fun q => absurd rfl q) ?_
      clear hK K
      try simp only [Act.put, lt, l0, ls]
      refine B.Till.done (by kernel_rfl) ?_
      go_wp2_with fail
      go_meet
      exact ⟨n, E v.id, w1.heap.size, rfl, rfl, hk6, setRow_heap _ _ _ _ _ _ HX6, (below_setRow hH6 (Nat.le_refl _) _)⟩
-- TILL 1 END
  case rest =>
    obtain ⟨n, er, B5, rfl, rfl, hk5, hx5, hb5⟩ := hcut
    have c2 := (cell_of_row _ _ 2 _ _ _ hx5).trans (show (nodeC n)[2]? = some (.int .i64 n.kind) from rfl)
    obtain ⟨⟨_, c3⟩, _, c4⟩ := HC.out _ hb5
    have HB5 := Lib.hid (HB1.out.trans (hb5.mono HB1.out.size))
    clear hx5 hb5 HC HX1 HB1 HN HH
    cases hd : T.dir v.id with
    | true =>
      have k2 : (n.kind == 2) = true := hk5.trans hd
      have HD := Lib.hid hd
      clear hk5 hd
      go_upto_region 2 with fail
      go_quiet (fail)
      go_wp2
      go_ret
      refine ⟨?_, drewn_below HB5.out⟩
      rw [HD.out]
      simp
    | false =>
      have k2 : (n.kind == 2) = false := hk5.trans hd
      have HD := Lib.hid hd
      clear hk5 hd
      go_upto_region 2 with fail
      go_quiet (fail)
      go_wp2
      go_ret
      refine ⟨?_, drewn_below HB5.out⟩
      rw [HD.out]
      simp

set_option maxRecDepth 100000 in
set_option maxHeartbeats 4000000 in
theorem next_any (HT : Tel T E W0 p u g all) {v : Vis} {a : Value} {x : ByteArray × Int} {l : List (ByteArray × Int)} {r : List Fr} {k cap : Nat} (h : Wk W0 R nb nc b p u g most all (⟨v, a, x :: l⟩ :: r) D (.slice (some ⟨k, 0, none⟩) (r.length + 1) cap) vv w) (hr : r.length ≤ 1000) (hd : v.depth = (r.length : Int)) (hn : v.name.size ≤ 100000) (hx : x.1.size ≤ 100000) :
    Calls Tryz.prog 36 #[.pointer (some ⟨b, 0, none⟩)] w fun e w' => e = .returned (visV (atV T (kidV v x l.isEmpty))) ∧ ∃ c, Wk W0 R nb nc b p u g most all (⟨v, c, l⟩ :: r) D (.slice (some ⟨k, 0, none⟩) (r.length + 1) cap) vv w' := by
  have HO := Lib.hid (fun W hb => HT.over x.2 W hb)
  have HJ := Lib.hid (fun W => join_any v.name x.1 W (by omega) (by omega))
  have HH := Lib.hid h
  have HTop := Lib.hid (fun W (hb : Below w.heap.size w W) => top_any (HH.out.keep hb) hr)
  have HLe := Lib.hid (show ((l.length : Int) == 0) = l.isEmpty from by
    cases l with
    | nil => rfl
    | cons y l => rw [List.isEmpty_cons, beq_eq_false_iff_ne, List.length_cons]; omega)
  have hw : IntKind.i64.wrap (v.depth + 1) = v.depth + 1 := IntWalk.i64_in _ (by omega)
  clear h HT hn hx hd
  go_enter Tryz.func36, Tryz.ntmps36
  go_upto_region 1 with fail
  have HX0 := Lib.hid (heap_alloc_new w (.cells #[.int .i64 0, .int .i64 0, .string ⟨#[]⟩, .string ⟨#[]⟩, .bool false, .bool false, .int .i64 0] 82))
  have HB0 := Lib.hid ((Below.refl w.heap.size w).alloc (Nat.le_refl _) (.cells #[.int .i64 0, .int .i64 0, .string ⟨#[]⟩, .string ⟨#[]⟩, .bool false, .bool false, .int .i64 0] 82))
  generalize w.alloc (.cells #[.int .i64 0, .int .i64 0, .string ⟨#[]⟩, .string ⟨#[]⟩, .bool false, .bool false, .int .i64 0] 82) = w1 at HX0 HB0 ⊢
  go_wp2_with fail
  refine (HTop.out _ HB0.out).mono ?_
  rintro e w2 ⟨rfl, hb⟩
  have HX2 := Lib.hid ((hb.block _ (B.heap_lt HX0.out)).trans HX0.out)
  have HW2 := Lib.hid (HH.out.keep (HB0.out.trans (hb.mono HB0.out.size)))
  have HNe := Lib.hid (show b ≠ w.heap.size ∧ k ≠ w.heap.size ∧ W0.heap.size ≤ w.heap.size ∧ (∀ j, vv.ownBlock = some j → j ≠ w.heap.size) ∧ nb ≠ w.heap.size from by
    refine ⟨fun e => ?_, fun e => ?_, HH.out.low.size, fun j hj e => ?_, fun e => by have := B.heap_lt HH.out.now; omega⟩
    · have := B.heap_lt HH.out.head; omega
    · have := (HH.out.stk.lt k rfl).2; omega
    · have := (HH.out.vis.lt j hj).2; omega)
  clear hb HX0 HB0 HTop HH
  generalize w.heap.size = B0 at HX2 HNe ⊢
  obtain ⟨ge, oe, ce, rfl, hge, hle, hce, e0, e1, et⟩ := (HW2.out.ents _ List.mem_cons_self).first
  have HET := Lib.hid et
  have hLge := Lib.hid hge
  clear et hge
  have c7 := HW2.out.top (j := 7) rfl
  have f7 := HW2.out.top_free (r.length * 8 + 7)
  have hpos : 0 < l.length + 1 := by omega
  have hcp : l.length + 1 ≤ ce := hle
  go_upto_region 3 with fail
  have HX3 := Lib.hid (heap_alloc_new w2 (.cells #[.string x.1, .int .i64 x.2] 45))
  have HBn := Lib.hid ((Below.refl w2.heap.size w2).alloc (Nat.le_refl _) (.cells #[.string x.1, .int .i64 x.2] 45))
  generalize w2.alloc (.cells #[.string x.1, .int .i64 x.2] 45) = w3 at HX3 HBn ⊢
  have HW3 := Lib.hid (HW2.out.keep HBn.out)
  have HX3' := Lib.hid ((HBn.out.block _ (B.heap_lt HX2.out)).trans HX2.out)
  have HNe3 := Lib.hid (show k ≠ w2.heap.size from fun e => by have := (HW2.out.stk.lt k rfl).2; omega)
  have HE3 := Lib.hid (HET.out.keep HBn.out)
  clear c7 f7 e0 e1 HET HX2 HW2 HBn
  generalize w2.heap.size = B4 at HX3 HNe3 ⊢
  have c7 := HW3.out.top (j := 7) rfl
  have f7 := HW3.out.top_free (r.length * 8 + 7)
  have HW4 := Lib.hid (HW3.out.less HE3.out)
  go_upto_region 4 with fail
  have HX4 := Lib.hid ((Below.heap_setCell w3 ⟨k, r.length * 8 + 7, none⟩ (.slice (if ce = 1 then some ⟨ge, oe, none⟩ else some ⟨ge, oe + 2, none⟩) l.length (ce - 1)) B4 (fun e => HNe3.out e.symm)).trans HX3.out)
  have HX4' := Lib.hid ((Below.heap_setCell w3 ⟨k, r.length * 8 + 7, none⟩ (.slice (if ce = 1 then some ⟨ge, oe, none⟩ else some ⟨ge, oe + 2, none⟩) l.length (ce - 1)) B0 (fun e => HNe.out.2.1 e.symm)).trans HX3'.out)
  clear HW3 HX3 HX3' HE3 c7 f7
  generalize (if ce = 1 then some (⟨ge, oe, none⟩ : Addr) else some ⟨ge, oe + 2, none⟩) = ao at *
  generalize w3.setCell ⟨k, r.length * 8 + 7, none⟩ (.slice ao l.length (ce - 1)) = w4 at HW4 HX4 HX4' ⊢
  have c0 := HW4.out.cell (j := 0) rfl
  have d0 : w4.cell? ⟨B4, 0, none⟩ = some (.string x.1) := by rw [cell_of_row _ _ _ _ _ _ HX4.out]; rfl
  have d1 : w4.cell? ⟨B4, 1, none⟩ = some (.int .i64 x.2) := by rw [cell_of_row _ _ _ _ _ _ HX4.out]; rfl
  have t1 : w4.cell? ⟨k, r.length * 8 + 1, none⟩ = some (.int .i64 v.depth) := HW4.out.top (j := 1) rfl
  have t2 : w4.cell? ⟨k, r.length * 8 + 2, none⟩ = some (.string v.name) := HW4.out.top (j := 2) rfl
  have t7 : w4.cell? ⟨k, r.length * 8 + 7, none⟩ = some (.slice ao l.length (ce - 1)) := HW4.out.top (j := 7) rfl
  have HLd := Lib.hid (HW4.out.low.drew)
  have hle2 := HLe.out
  go_still_tail 30, (by kernel_rfl)
  still_call (HO.out w4.drew HLd.out)
  repeat still_step
  still_call (HJ.out w4.drew)
  repeat still_step
  refine wpStill_nil ?_
  change wpList _ _ _ _ _ w4.drew
  have HW5 := Lib.hid (HW4.out.keep (drewn_below (n := 1) (Below.refl _ _)))
  change Hid (Wk _ _ _ _ _ _ _ _ _ _ _ _ _ _ w4.drew) at HW5
  have HX5 := Lib.hid (show w4.drew.heap[B0]? = _ from HX4'.out)
  clear c0 d0 d1 t1 t2 t7 HW4 HX4 HX4'
  generalize w4.drew = w5 at HW5 HX5 ⊢
  go_wp2_with (refine wpList_store_row rfl 82 (.tmp 2) (.tmp 50) rfl B0 (visC (atV T (kidV v x l.isEmpty))).toArray rfl rfl 82 _ HX5.out sizeVis rfl (all_oneCell_toArray (visC_one _)) ?_)
  refine bodyPost_ret (v := visV (atV T (kidV v x l.isEmpty))) ?_ rfl ⟨rfl, .slice ao l.length (ce - 1), ?_⟩
  · exact results_cell_row Tryz.results36 _ _ B0 _ _ _ _ rfl (setRow_heap _ _ _ _ _ _ HX5.out) Tryz.underlying82 rfl sizeVis
  · obtain ⟨h1, h2, h3, h4, h5, h6, h7, h8, h9, h10⟩ := HW5.out
    refine ⟨?_, B.owns_at h2 fun j hj => setRow_other _ _ _ _ ?_, B.owns_at h3 fun j hj => setRow_other _ _ _ _ (HNe.out.2.2.2.1 j hj), fun y hy => (h4 y hy).at_ fun j cur _ hj => ?_, below_setRow h5 HNe.out.2.2.1 _, h6, by rw [setRow_other _ _ _ _ HNe.out.2.2.2.2]; exact h7, h8, h9, by simpa [World.setRow] using h10⟩
    · rw [setRow_other _ _ _ _ HNe.out.1]; exact h1
    · obtain rfl : k = j := Option.some.inj hj
      exact HNe.out.2.1
    · rw [setRow_other _ _ _ _ (by rintro rfl; rw [HX5.out] at hj; simp at hj)]; exact hj
end
end Go.Proofs.YtpikndeefiediaaGreatDoor.G

namespace Go.Proofs.YtpikndeefiediaaGreatDoor.G
open List renaming setIfInBounds_toArray → lt, set_cons_zero → l0, set_cons_succ → ls
open Go.RowKit

theorem infoOp : (Tryz.prog.info? 113).map (fun i => (i.zero, i.size, i.bytes)) = some (some (.agg #[.int .i64 0, .int .i64 0, .string ⟨#[]⟩, .string ⟨#[]⟩, .bool false, .bool false, .int .i64 0, .slice none 0 0]), 8, 88) := by kernel_rfl
theorem frC_one (x : Fr) (h : x.lv.oneCell' = true) : ∀ u ∈ frC x, u.oneCell' = true := by
  intro u hu
  simp only [frC, List.mem_cons, List.not_mem_nil, or_false] at hu
  rcases hu with rfl | rfl | rfl | rfl | rfl | rfl | rfl | rfl
  all_goals first | rfl | exact h
theorem EntsAt.one {B0 : Nat} {w : World} {v : Value} {l : List (ByteArray × Int)} (h : EntsAt B0 w v l) : v.oneCell' = true := by
  obtain ⟨a, cap, rfl, _⟩ := h
  rfl
section
variable {T : Tr} {E : Int → Int} {W0 : World} {R nb : Nat} {nc : Array Value} {b p : Nat} {u g most : Int} {all : Bool} {S : List Fr} {D : List Vis} {sv vv : Value} {w : World}
/-- Ahead of an append of the visit that lies at B1. -/
structure Ready (W0 : World) (R nb : Nat) (nc : Array Value) (b p : Nat) (u g most : Int) (all : Bool) (S : List Fr) (D : List Vis) (sv vv : Value) (V : Vis) (B1 : Nat) (w3 : World) : Prop where
  wk : Wk W0 R nb nc b p u g most all S D sv vv w3
  box : w3.heap[B1]? = some (.cells (visC V).toArray 82 (0, 0))
  apart : B1 ≠ b ∧ (∀ j, vv.ownBlock = some j → j ≠ B1) ∧ (∀ j, sv.ownBlock = some j → j ≠ B1)
section
variable {V : Vis} {B1 : Nat} {w3 : World} (h : Ready W0 R nb nc b p u g most all S D sv vv V B1 w3)
theorem Ready.cb {W : World} (h : Ready W0 R nb nc b p u g most all S D sv vv V B1 w3) (hW : W.heap[b]? = w3.heap[b]?) : W.cell? ⟨b, 5, none⟩ = some sv ∧ W.cell? ⟨b, 6, none⟩ = some vv ∧ W.frozen? ⟨b, 6, none⟩ = false := by
  have q := hW.trans h.wk.head
  refine ⟨?_, ?_, frozen_of_row _ _ _ _ _ q⟩ <;> (rw [cell_of_row _ _ _ _ _ _ q]; rfl)
theorem Ready.fb {W : World} (h : Ready W0 R nb nc b p u g most all S D sv vv V B1 w3) (hW : W.heap[b]? = w3.heap[b]?) : W.frozen? ⟨b, 5, none⟩ = false := frozen_of_row _ _ _ _ _ (hW.trans h.wk.head)
theorem Ready.cx {W : World} (h : Ready W0 R nb nc b p u g most all S D sv vv V B1 w3) (hW : W.heap[B1]? = w3.heap[B1]?) : W.cell? ⟨B1, 0, none⟩ = some (.int .i64 V.id) ∧ W.cell? ⟨B1, 1, none⟩ = some (.int .i64 V.depth) ∧ W.cell? ⟨B1, 2, none⟩ = some (.string V.name) ∧ W.cell? ⟨B1, 3, none⟩ = some (.string V.base) ∧ W.cell? ⟨B1, 4, none⟩ = some (.bool V.last) ∧ W.cell? ⟨B1, 5, none⟩ = some (.bool V.over) ∧ W.cell? ⟨B1, 6, none⟩ = some (.int .i64 V.err) := by
  have q := hW.trans h.box
  refine ⟨?_, ?_, ?_, ?_, ?_, ?_, ?_⟩ <;> (rw [cell_of_row _ _ _ _ _ _ q]; rfl)
theorem Ready.lb (h : Ready W0 R nb nc b p u g most all S D sv vv V B1 w3) : b < w3.heap.size := B.heap_lt h.wk.head
theorem Ready.lx (h : Ready W0 R nb nc b p u g most all S D sv vv V B1 w3) : B1 < w3.heap.size := B.heap_lt h.box
theorem Ready.neb (h : Ready W0 R nb nc b p u g most all S D sv vv V B1 w3) : some b ≠ vv.ownBlock := fun e => h.wk.v_ne e.symm rfl
theorem Ready.nx (h : Ready W0 R nb nc b p u g most all S D sv vv V B1 w3) : some B1 ≠ vv.ownBlock := fun e => h.apart.2.1 _ e.symm rfl
theorem Ready.neb' (h : Ready W0 R nb nc b p u g most all S D sv vv V B1 w3) : some b ≠ sv.ownBlock := fun e => h.wk.s_ne e.symm rfl
theorem Ready.nx' (h : Ready W0 R nb nc b p u g most all S D sv vv V B1 w3) : some B1 ≠ sv.ownBlock := fun e => h.apart.2.2 _ e.symm rfl
end
theorem drew_alloc (w3 : World) (o : Obj) : Below w3.heap.size w3 (w3.drew.alloc o) := ((Below.refl _ _).drew).alloc (Nat.le_refl _) o
theorem lt_drew_alloc {w3 : World} {k : Nat} (h : k < w3.heap.size) (o : Obj) : k < (w3.drew.alloc o).heap.size := by simp; omega

set_option maxRecDepth 100000 in
set_option maxHeartbeats 8000000 in
theorem open_any (HT : Tel T E W0 p u g all) (v : Vis) (h : Wk W0 R nb nc b p u g most all S D sv vv w) (hS : S.length ≤ 1000) (hD : D.length ≤ 1000000) :
    Calls Tryz.prog 33 #[.pointer (some ⟨b, 0, none⟩), visV v] w fun e w' => e = .returned (.tuple #[]) ∧
      (((T.shown v.id).1 ≠ 0 ∧ ∃ vv', Wk W0 R nb nc b p u g most all S (D ++ [errV v (T.shown v.id).1]) sv vv' w') ∨ ((T.shown v.id).1 = 0 ∧ ∃ lv sv', Wk W0 R nb nc b p u g most all (⟨v, lv, (T.shown v.id).2⟩ :: S) D sv' vv w')) := by
  have HSh := Lib.hid (fun W hb => HT.shown v.id W hb)
  obtain ⟨er, her⟩ : ∃ er, (T.shown v.id).1 = er := ⟨_, rfl⟩
  obtain ⟨l, hl⟩ : ∃ l, (T.shown v.id).2 = l := ⟨_, rfl⟩
  rw [her, hl] at HSh ⊢
  clear her hl HT
  have HH := Lib.hid h
  clear h
  unfold visV P.credV at *
  go_enter Tryz.func33, Tryz.ntmps33
  go_upto_region 1 with fail
  have HX1 := Lib.hid (heap_alloc_new w (.cells #[.int .i64 v.id, .int .i64 v.depth, .string v.name, .string v.base, .bool v.last, .bool v.over, .int .i64 v.err] 82))
  have HB1 := Lib.hid ((Below.refl w.heap.size w).alloc (Nat.le_refl _) (.cells #[.int .i64 v.id, .int .i64 v.depth, .string v.name, .string v.base, .bool v.last, .bool v.over, .int .i64 v.err] 82))
  have HNe := Lib.hid (show w.heap.size ≠ b ∧ (∀ j, vv.ownBlock = some j → j ≠ w.heap.size) ∧ (∀ j, sv.ownBlock = some j → j ≠ w.heap.size) ∧ W0.heap.size ≤ w.heap.size ∧ nb ≠ w.heap.size from by
    refine ⟨fun e => ?_, fun j hj e => ?_, fun j hj e => ?_, HH.out.low.size, fun e => by have := B.heap_lt HH.out.now; omega⟩
    · have := B.heap_lt HH.out.head; omega
    · have := (HH.out.vis.lt j hj).2; omega
    · have := (HH.out.stk.lt j hj).2; omega)
  generalize w.alloc (.cells #[.int .i64 v.id, .int .i64 v.depth, .string v.name, .string v.base, .bool v.last, .bool v.over, .int .i64 v.err] 82) = w1 at HX1 HB1 ⊢
  have HW1 := Lib.hid (HH.out.keep HB1.out)
  clear HB1 HH
  generalize w.heap.size = B1 at HX1 HNe ⊢
  have HC1 := Lib.hid (show ∀ W, Below w1.heap.size w1 W → W.cell? ⟨b, 0, none⟩ = some (.pointer (some ⟨p, 0, none⟩)) ∧ W.cell? ⟨b, 1, none⟩ = some (.int .i64 u) ∧ W.cell? ⟨b, 2, none⟩ = some (.int .i64 g) ∧ W.cell? ⟨b, 4, none⟩ = some (.bool all) ∧ W.cell? ⟨B1, 0, none⟩ = some (.int .i64 v.id) from fun W hb => by
    have q := HW1.out.keep hb
    exact ⟨q.cell (j := 0) rfl, q.cell (j := 1) rfl, q.cell (j := 2) rfl, q.cell (j := 4) rfl, by rw [cell_of_row _ _ _ _ _ _ ((hb.block _ (B.heap_lt HX1.out)).trans HX1.out)]; rfl⟩)
-- TILL 3
  refine B.Till.region (z := 19) (S := fun w' => Below w1.heap.size w1 w') (by kernel_rfl) ((Below.refl _ _).drew) (fun hHeld => ?_)
  refine B.Till.take (i := 0) (oi := ⟨some 7, .move (.tmp 0), 110, "roam.go:110", #[], none⟩) (v := .pointer (some ⟨b, 0, none⟩)) rfl (by kernel_rfl) (by kernel_rfl) (by kernel_rfl) (by kernel_rfl) (fun _ _ _ h => h) (Or.inl ⟨by rfl, fun w0 hS0 => ?_⟩) (by assumption) ?_
  · go_simp
  try simp only [Act.put, lt, l0, ls]
  refine B.Till.take (i := 1) (oi := ⟨some 8, .nilCheck (.tmp 7), 0, "roam.go:110", #[⟨0, .data⟩], none⟩) (v := .pointer (some ⟨b, 0, none⟩)) rfl (by kernel_rfl) (by kernel_rfl) (by kernel_rfl) (by kernel_rfl) (fun _ _ _ h => h) (Or.inl ⟨by rfl, fun w0 hS0 => ?_⟩) (by assumption) ?_
  · go_simp
  try simp only [Act.put, lt, l0, ls]
  refine B.Till.take (i := 2) (oi := ⟨some 9, .fieldAddr 95 (.tmp 8) 0, 0, "roam.go:110", #[⟨1, .data⟩], none⟩) (v := .pointer (some ⟨b, 0, none⟩)) rfl (by kernel_rfl) (by kernel_rfl) (by kernel_rfl) (by kernel_rfl) (fun _ _ _ h => h) (Or.inl ⟨by rfl, fun w0 hS0 => ?_⟩) (by assumption) ?_
  · go_simp
  try simp only [Act.put, lt, l0, ls]
  refine B.Till.take (i := 3) (oi := ⟨some 10, .load 25 (.tmp 9), 25, "roam.go:110", #[⟨2, .data⟩], none⟩) (v := .pointer (some ⟨p, 0, none⟩)) rfl (by kernel_rfl) (by kernel_rfl) (by kernel_rfl) (by kernel_rfl) (fun _ _ _ h => h) (Or.inl ⟨by rfl, fun w0 hS0 => ?_⟩) (by assumption) ?_
  · have c0 := (HC1.out _ hS0).1; go_simp
  try simp only [Act.put, lt, l0, ls]
  refine B.Till.take (i := 4) (oi := ⟨some 11, .move (.tmp 0), 110, "roam.go:110", #[], none⟩) (v := .pointer (some ⟨b, 0, none⟩)) rfl (by kernel_rfl) (by kernel_rfl) (by kernel_rfl) (by kernel_rfl) (fun _ _ _ h => h) (Or.inl ⟨by rfl, fun w0 hS0 => ?_⟩) (by assumption) ?_
  · go_simp
  try simp only [Act.put, lt, l0, ls]
  refine B.Till.take (i := 5) (oi := ⟨some 12, .nilCheck (.tmp 11), 0, "roam.go:110", #[⟨4, .data⟩], none⟩) (v := .pointer (some ⟨b, 0, none⟩)) rfl (by kernel_rfl) (by kernel_rfl) (by kernel_rfl) (by kernel_rfl) (fun _ _ _ h => h) (Or.inl ⟨by rfl, fun w0 hS0 => ?_⟩) (by assumption) ?_
  · go_simp
  try simp only [Act.put, lt, l0, ls]
  refine B.Till.take (i := 6) (oi := ⟨some 13, .fieldAddr 95 (.tmp 12) 1, 0, "roam.go:110", #[⟨5, .data⟩], none⟩) (v := .pointer (some ⟨b, 1, none⟩)) rfl (by kernel_rfl) (by kernel_rfl) (by kernel_rfl) (by kernel_rfl) (fun _ _ _ h => h) (Or.inl ⟨by rfl, fun w0 hS0 => ?_⟩) (by assumption) ?_
  · go_simp
  try simp only [Act.put, lt, l0, ls]
  refine B.Till.take (i := 7) (oi := ⟨some 14, .load 50 (.tmp 13), 50, "roam.go:110", #[⟨6, .data⟩], none⟩) (v := .agg #[.int .i64 u, .int .i64 g]) rfl (by kernel_rfl) (by kernel_rfl) (by kernel_rfl) (by kernel_rfl) (fun _ _ _ h => h) (Or.inl ⟨by rfl, fun w0 hS0 => ?_⟩) (by assumption) ?_
  · have c0 := (HC1.out _ hS0).2.1; have c1 := (HC1.out _ hS0).2.2.1; go_simp
  try simp only [Act.put, lt, l0, ls]
  refine B.Till.take (i := 8) (oi := ⟨some 15, .fieldAddr 82 (.tmp 3) 0, 0, "roam.go:110", #[], none⟩) (v := .pointer (some ⟨B1, 0, none⟩)) rfl (by kernel_rfl) (by kernel_rfl) (by kernel_rfl) (by kernel_rfl) (fun _ _ _ h => h) (Or.inl ⟨by rfl, fun w0 hS0 => ?_⟩) (by assumption) ?_
  · go_simp
  try simp only [Act.put, lt, l0, ls]
  refine B.Till.take (i := 9) (oi := ⟨some 16, .load 3 (.tmp 15), 3, "roam.go:110", #[⟨8, .data⟩], none⟩) (v := .int .i64 v.id) rfl (by kernel_rfl) (by kernel_rfl) (by kernel_rfl) (by kernel_rfl) (fun _ _ _ h => h) (Or.inl ⟨by rfl, fun w0 hS0 => ?_⟩) (by assumption) ?_
  · have c0 := (HC1.out _ hS0).2.2.2.2; go_simp
  try simp only [Act.put, lt, l0, ls]
  refine B.Till.take (i := 10) (oi := ⟨some 17, .move (.tmp 0), 110, "roam.go:110", #[], none⟩) (v := .pointer (some ⟨b, 0, none⟩)) rfl (by kernel_rfl) (by kernel_rfl) (by kernel_rfl) (by kernel_rfl) (fun _ _ _ h => h) (Or.inl ⟨by rfl, fun w0 hS0 => ?_⟩) (by assumption) ?_
  · go_simp
  try simp only [Act.put, lt, l0, ls]
  refine B.Till.take (i := 11) (oi := ⟨some 18, .nilCheck (.tmp 17), 0, "roam.go:110", #[⟨10, .data⟩], none⟩) (v := .pointer (some ⟨b, 0, none⟩)) rfl (by kernel_rfl) (by kernel_rfl) (by kernel_rfl) (by kernel_rfl) (fun _ _ _ h => h) (Or.inl ⟨by rfl, fun w0 hS0 => ?_⟩) (by assumption) ?_
  · go_simp
  try simp only [Act.put, lt, l0, ls]
  refine B.Till.take (i := 12) (oi := ⟨some 19, .fieldAddr 95 (.tmp 18) 3, 0, "roam.go:110", #[⟨11, .data⟩], none⟩) (v := .pointer (some ⟨b, 4, none⟩)) rfl (by kernel_rfl) (by kernel_rfl) (by kernel_rfl) (by kernel_rfl) (fun _ _ _ h => h) (Or.inl ⟨by rfl, fun w0 hS0 => ?_⟩) (by assumption) ?_
  · go_simp
  try simp only [Act.put, lt, l0, ls]
  refine B.Till.take (i := 13) (oi := ⟨some 20, .load 4 (.tmp 19), 4, "roam.go:110", #[⟨12, .data⟩], none⟩) (v := .bool all) rfl (by kernel_rfl) (by kernel_rfl) (by kernel_rfl) (by kernel_rfl) (fun _ _ _ h => h) (Or.inl ⟨by rfl, fun w0 hS0 => ?_⟩) (by assumption) ?_
  · have c0 := (HC1.out _ hS0).2.2.2.1; go_simp
  try simp only [Act.put, lt, l0, ls]
  refine B.Till.next (i := 14) (o := ⟨some 21, .call ⟨.value (.func 51), #[.tmp 10, .tmp 14, .tmp 16, .tmp 20], #[25, 50, 3, 4]⟩, 41, "roam.go:110", #[⟨3, .data⟩, ⟨7, .data⟩, ⟨9, .data⟩, ⟨13, .data⟩], none⟩) (by kernel_rfl) rfl (fun K hK => ?_)
  go_simp
  refine (HSh.out _ (HW1.out.low.trans (hHeld.mono HW1.out.low.size))).mono ?_
  rintro e w3 ⟨lv, rfl, hl, hb⟩
  have hHz : Below w1.heap.size w1 w3 := hHeld.trans (hb.mono hHeld.size)
  have HL3 := Lib.hid hl
  have HB3 := Lib.hid hb
  clear hl hb
  go_wp2_with fail
  refine hK.out _ _ (fun _ => hHz) ?_
  clear hK K
  try simp only [Act.put, lt, l0, ls]
  refine B.Till.take (i := 15) (oi := ⟨some 6, .move (.tmp 21), 41, "roam.go:110", #[⟨14, .data⟩], none⟩) (v := .tuple #[lv, .int .i64 er]) rfl (by kernel_rfl) (by kernel_rfl) (by kernel_rfl) (by kernel_rfl) (fun _ _ _ h => h) (Or.inl ⟨by rfl, fun w0 hS0 => ?_⟩) (by assumption) ?_
  · go_simp
  try simp only [Act.put, lt, l0, ls]
  refine B.Till.take (i := 16) (oi := ⟨some 22, .extract (.tmp 6) 0, 40, "roam.go:110", #[⟨15, .data⟩], none⟩) (v := lv) rfl (by kernel_rfl) (by kernel_rfl) (by kernel_rfl) (by kernel_rfl) (fun _ _ _ h => h) (Or.inl ⟨by rfl, fun w0 hS0 => ?_⟩) (by assumption) ?_
  · go_simp
  try simp only [Act.put, lt, l0, ls]
  refine B.Till.take (i := 17) (oi := ⟨some 23, .extract (.tmp 6) 1, 37, "roam.go:110", #[⟨15, .data⟩, ⟨18, .gcOnly .lateStores⟩], none⟩) (v := .int .i64 er) rfl (by kernel_rfl) (by kernel_rfl) (by kernel_rfl) (by kernel_rfl) (fun _ _ _ h => h) (Or.inl ⟨by rfl, fun w0 hS0 => ?_⟩) (by assumption) ?_
  · go_simp
  try simp only [Act.put, lt, l0, ls]
  refine B.Till.next (i := 18) (o := ⟨some 4, .assign (.tmp 22), 40, "roam.go:110", #[⟨16, .data⟩, ⟨14, .chain⟩, ⟨0, .phase⟩, ⟨1, .phase⟩, ⟨2, .phase⟩, ⟨3, .phase⟩, ⟨4, .phase⟩, ⟨5, .phase⟩, ⟨6, .phase⟩, ⟨7, .phase⟩, ⟨8, .phase⟩, ⟨9, .phase⟩, ⟨10, .phase⟩, ⟨11, .phase⟩, ⟨12, .phase⟩, ⟨13, .phase⟩, ⟨14, .phase⟩, ⟨15, .phase⟩, ⟨16, .phase⟩, ⟨17, .textOnly .lateStores⟩], none⟩) (by kernel_rfl) rfl (fun K hK => ?_)
  go_simp
  refine hK.out _ _ (fun _ => hHz) ?_
  clear hK K
  try simp only [Act.put, lt, l0, ls]
  refine B.Till.next (i := 19) (o := ⟨some 5, .assign (.tmp 23), 37, "roam.go:110", #[⟨17, .data⟩, ⟨18, .chain⟩, ⟨0, .phase⟩, ⟨1, .phase⟩, ⟨2, .phase⟩, ⟨3, .phase⟩, ⟨4, .phase⟩, ⟨5, .phase⟩, ⟨6, .phase⟩, ⟨7, .phase⟩, ⟨8, .phase⟩, ⟨9, .phase⟩, ⟨10, .phase⟩, ⟨11, .phase⟩, ⟨12, .phase⟩, ⟨13, .phase⟩, ⟨14, .phase⟩, ⟨15, .phase⟩, ⟨16, .phase⟩, ⟨17, .phase⟩, ⟨18, .phase⟩], none⟩) (by kernel_rfl) rfl (fun K hK => ?_)
  go_simp
  refine hK.out _ _ (fun q => absurd rfl q) ?_
  clear hK K
  try simp only [Act.put, lt, l0, ls]
  refine B.Till.done (by kernel_rfl) ?_
-- TILL 3 END
  have HWz := Lib.hid (HW1.out.keep hHz)
  have HXz := Lib.hid ((hHz.block _ (B.heap_lt HX1.out)).trans HX1.out)
  have HLw := Lib.hid (show W0.heap.size ≤ w1.drew.heap.size from HW1.out.low.size)
  clear hHeld hHz HC1 HSh HW1 HX1 HB3
  by_cases he : er = 0
  · obtain ⟨i0, hi0, hz0, hz1, hz2⟩ := info_parts infoOp
    have HLz := Lib.hid (HL3.out he)
    subst he
    have HE3 := Lib.hid (show EntsAt W0.heap.size w3 lv l from EntsAt.of_owns (by
      obtain ⟨q1, q2⟩ := HLz.out
      refine ⟨q1, ?_⟩
      rcases q2 with q | ⟨g', c', cur, q3, q4, q5⟩
      · exact .inl q
      · exact .inr ⟨g', c', cur, q3, Nat.le_trans HLw.out q4, q5⟩))
    obtain ⟨la, lc, hlv, _⟩ := HE3.out
    subst hlv
    have HVo := Lib.hid HE3.out.one
    have HRy := Lib.hid (show Ready W0 R nb nc b p u g most all S D sv vv v B1 w3 from ⟨HWz.out, HXz.out, HNe.out.1, HNe.out.2.1, HNe.out.2.2.1⟩)
    clear HL3 HLz HWz HXz HLw
    go_upto_region 5 with fail
-- TILL 2
    refine B.Till.region (z := 12) (S := fun w' => w'.heap[b]? = w3.heap[b]? ∧ w'.heap[B1]? = w3.heap[B1]?) (by kernel_rfl) ⟨rfl, rfl⟩ (fun hHeld => ?_)
    refine B.Till.take (i := 0) (oi := ⟨some 38, .move (.tmp 0), 110, "roam.go:116", #[], none⟩) (v := .pointer (some ⟨b, 0, none⟩)) rfl (by kernel_rfl) (by kernel_rfl) (by kernel_rfl) (by kernel_rfl) (fun _ _ _ h => h) (Or.inl ⟨by rfl, fun w0 hS0 => ?_⟩) (by assumption) ?_
    · go_simp
    try simp only [Act.put, lt, l0, ls]
    refine B.Till.take (i := 1) (oi := ⟨some 39, .move (.tmp 0), 110, "roam.go:116", #[], none⟩) (v := .pointer (some ⟨b, 0, none⟩)) rfl (by kernel_rfl) (by kernel_rfl) (by kernel_rfl) (by kernel_rfl) (fun _ _ _ h => h) (Or.inl ⟨by rfl, fun w0 hS0 => ?_⟩) (by assumption) ?_
    · go_simp
    try simp only [Act.put, lt, l0, ls]
    refine B.Till.take (i := 2) (oi := ⟨some 40, .nilCheck (.tmp 39), 0, "roam.go:116", #[⟨1, .data⟩], none⟩) (v := .pointer (some ⟨b, 0, none⟩)) rfl (by kernel_rfl) (by kernel_rfl) (by kernel_rfl) (by kernel_rfl) (fun _ _ _ h => h) (Or.inl ⟨by rfl, fun w0 hS0 => ?_⟩) (by assumption) ?_
    · go_simp
    try simp only [Act.put, lt, l0, ls]
    refine B.Till.take (i := 3) (oi := ⟨some 41, .fieldAddr 95 (.tmp 40) 4, 0, "roam.go:116", #[⟨2, .data⟩], none⟩) (v := .pointer (some ⟨b, 5, none⟩)) rfl (by kernel_rfl) (by kernel_rfl) (by kernel_rfl) (by kernel_rfl) (fun _ _ _ h => h) (Or.inl ⟨by rfl, fun w0 hS0 => ?_⟩) (by assumption) ?_
    · go_simp
    try simp only [Act.put, lt, l0, ls]
    refine B.Till.take (i := 4) (oi := ⟨some 42, .load 93 (.tmp 41), 93, "roam.go:116", #[⟨3, .data⟩], none⟩) (v := sv) rfl (by kernel_rfl) (by kernel_rfl) (by kernel_rfl) (by kernel_rfl) (fun _ _ _ h => h) (Or.inl ⟨by rfl, fun w0 hS0 => ?_⟩) (by assumption) ?_
    · have c5 := (HRy.out.cb hS0.1).1; go_simp
    try simp only [Act.put, lt, l0, ls]
    refine B.Till.take (i := 5) (oi := ⟨some 43, .load 82 (.tmp 3), 82, "roam.go:116", #[], none⟩) (v := .agg #[.int .i64 v.id, .int .i64 v.depth, .string v.name, .string v.base, .bool v.last, .bool v.over, .int .i64 v.err]) rfl (by kernel_rfl) (by kernel_rfl) (by kernel_rfl) (by kernel_rfl) (fun _ _ _ h => h) (Or.inl ⟨by rfl, fun w0 hS0 => ?_⟩) (by assumption) ?_
    · obtain ⟨r0, r1, r2, r3, r4, r5, r6⟩ := HRy.out.cx hS0.2; go_simp
    try simp only [Act.put, lt, l0, ls]
    refine B.Till.take (i := 6) (oi := ⟨some 44, .move (.tmp 4), 40, "roam.go:116", #[], none⟩) (v := (.slice la l.length lc)) rfl (by kernel_rfl) (by kernel_rfl) (by kernel_rfl) (by kernel_rfl) (fun _ _ _ h => h) (Or.inl ⟨by rfl, fun w0 hS0 => ?_⟩) (by assumption) ?_
    · go_simp
    try simp only [Act.put, lt, l0, ls]
    refine B.Till.take (i := 7) (oi := ⟨some 45, .build 113 #[(0, .tmp 43), (1, .tmp 44)], 113, "roam.go:116", #[⟨5, .data⟩, ⟨6, .data⟩], none⟩) (v := .agg #[.int .i64 v.id, .int .i64 v.depth, .string v.name, .string v.base, .bool v.last, .bool v.over, .int .i64 v.err, (.slice la l.length lc)]) rfl (by kernel_rfl) (by kernel_rfl) (by kernel_rfl) (by kernel_rfl) (fun _ _ _ h => h) (Or.inl ⟨by rfl, fun w0 hS0 => ?_⟩) (by assumption) ?_
    · go_simp
    try simp only [Act.put, lt, l0, ls]
    refine B.Till.next (i := 8) (o := ⟨some 46, .buildSlice 93 1 #[(0, .tmp 45)], 93, "roam.go:116", #[⟨7, .data⟩], none⟩) (by kernel_rfl) rfl (fun K hK => ?_)
    go_simp
    refine hK.out _ _ (fun _ => ⟨(heap_alloc_old _ _ HRy.out.lb).trans hHeld.1, (heap_alloc_old _ _ HRy.out.lx).trans hHeld.2⟩) ?_
    clear hK K
    try simp only [Act.put, lt, l0, ls]
    refine B.Till.next (i := 9) (o := ⟨some 47, .call ⟨.builtin .append, #[.tmp 42, .tmp 46], #[93, 93]⟩, 93, "roam.go:116", #[⟨4, .data⟩, ⟨8, .data⟩], none⟩) (by kernel_rfl) rfl (fun K hK => ?_)
    refine step_append_lies _ rfl (.tmp 42) (.tmp 46) 93 rfl R 113 i0 _ 8 88 Tryz.underlying93 hi0 hz0 hz1 hz2 rfl (by decide) sv S.length (rowsC frC S.reverse) (by simp [Act.eval]) (HRy.out.wk.keep (drew_alloc _ _)).stk ⟨w3.heap.size, 0, none⟩ 1 1 (frC ⟨v, (.slice la l.length lc), l⟩) (by simp [Act.eval]) rfl (World.news_of_block (heap_alloc_new _ _)) (frC_one _ HVo.out) (by decide) (by unfold maxLen; omega) (by omega) (HRy.out.wk.keep (drew_alloc _ _)).rle _ rfl ?_
    intro g1 cap1 w4 hown hgrow hat hlt1
    have hS4 : w4.heap[b]? = w3.heap[b]? ∧ w4.heap[B1]? = w3.heap[B1]? := ⟨(hgrow.block _ (lt_drew_alloc HRy.out.lb _) HRy.out.neb').trans (heap_alloc_old _ _ HRy.out.lb), (hgrow.block _ (lt_drew_alloc HRy.out.lx _) HRy.out.nx').trans (heap_alloc_old _ _ HRy.out.lx)⟩
    have HW4 := Lib.hid ((HRy.out.wk.keep (drew_alloc _ _)).push (x := ⟨v, (.slice la l.length lc), l⟩) hown hgrow (HE3.out.keep (drew_alloc _ _)))
    clear hown hgrow hat hlt1
    refine hK.out _ _ (fun _ => hS4) ?_
    clear hK K
    try simp only [Act.put, lt, l0, ls]
    refine B.Till.next (i := 10) (o := ⟨some 48, .nilCheck (.tmp 38), 0, "roam.go:116", #[⟨0, .data⟩, ⟨0, .phase⟩, ⟨1, .phase⟩, ⟨2, .phase⟩, ⟨3, .phase⟩, ⟨4, .phase⟩, ⟨5, .phase⟩, ⟨6, .phase⟩, ⟨7, .phase⟩, ⟨8, .phase⟩, ⟨9, .phase⟩], none⟩) (by kernel_rfl) rfl (fun K hK => ?_)
    go_simp
    refine hK.out _ _ (fun _ => hS4) ?_
    clear hK K
    try simp only [Act.put, lt, l0, ls]
    refine B.Till.next (i := 11) (o := ⟨some 49, .fieldAddr 95 (.tmp 48) 4, 0, "roam.go:116", #[⟨10, .data⟩, ⟨0, .phase⟩, ⟨1, .phase⟩, ⟨2, .phase⟩, ⟨3, .phase⟩, ⟨4, .phase⟩, ⟨5, .phase⟩, ⟨6, .phase⟩, ⟨7, .phase⟩, ⟨8, .phase⟩, ⟨9, .phase⟩], none⟩) (by kernel_rfl) rfl (fun K hK => ?_)
    go_simp
    refine hK.out _ _ (fun _ => hS4) ?_
    clear hK K
    try simp only [Act.put, lt, l0, ls]
    refine B.Till.next (i := 12) (o := ⟨none, .store 93 (.tmp 49) (.tmp 47), 0, "roam.go:116", #[⟨11, .data⟩, ⟨9, .data⟩, ⟨9, .chain⟩, ⟨0, .phase⟩, ⟨1, .phase⟩, ⟨2, .phase⟩, ⟨3, .phase⟩, ⟨4, .phase⟩, ⟨5, .phase⟩, ⟨6, .phase⟩, ⟨7, .phase⟩, ⟨8, .phase⟩, ⟨9, .phase⟩], none⟩) (by kernel_rfl) rfl (fun K hK => ?_)
    obtain ⟨c5, c6, f6⟩ := HRy.out.cb hS4.1
    have f5 := HRy.out.fb hS4.1
    go_simp
    refine hK.out _ _ (fun q => absurd rfl q) ?_
    clear hK K
    try simp only [Act.put, lt, l0, ls]
    refine B.Till.done (by kernel_rfl) ?_
-- TILL 2 END
    go_wp2_with fail
    go_end0
    exact ⟨rfl, _, _, HW4.out⟩
  · have HE := Lib.hid he
    have e1 : (er != 0) = true := by simpa using he
    obtain ⟨i0, hi0, hz0, hz1, hz2⟩ := info_parts infoVis
    have f6 : w3.frozen? ⟨B1, 6, none⟩ = false := frozen_of_row _ _ _ _ _ HXz.out
    have c6 : w3.cell? ⟨B1, 6, none⟩ = some (.int .i64 v.err) := by rw [cell_of_row _ _ _ _ _ _ HXz.out]; rfl
    clear he HL3 HLw
    go_upto_region 4 with fail
    have HRy := Lib.hid (show Ready W0 R nb nc b p u g most all S D sv vv (errV v er) B1 (w3.setCell ⟨B1, 6, none⟩ (.int .i64 er)) from by
      obtain ⟨h1, h2, h3, h4, h5, h6, h7, h8, h9, h10⟩ := HWz.out
      refine ⟨⟨?_, B.owns_at h2 fun j hj => heap_setCell_other _ _ _ _ (HNe.out.2.2.1 j hj), B.owns_at h3 fun j hj => heap_setCell_other _ _ _ _ (HNe.out.2.1 j hj), fun y hy => (h4 y hy).at_ fun j cur _ hj => ?_, h5.setCell HNe.out.2.2.2.1 _, h6, by rw [heap_setCell_other _ _ _ _ HNe.out.2.2.2.2]; exact h7, h8, h9, by simpa [World.setCell] using h10⟩, ?_, HNe.out.1, HNe.out.2.1, HNe.out.2.2.1⟩
      · rw [heap_setCell_other _ _ _ _ (fun e => HNe.out.1 e.symm)]; exact h1
      · rw [heap_setCell_other _ _ _ _ (by rintro rfl; rw [HXz.out] at hj; simp at hj)]; exact hj
      · rw [heap_setCell_same _ _ _ _ _ _ HXz.out]; rfl)
    generalize w3.setCell ⟨B1, 6, none⟩ (.int .i64 er) = w5 at HRy ⊢
    clear f6 c6 HWz HXz e1
-- TILL 1
    refine B.Till.region (z := 10) (S := fun w' => w'.heap[b]? = w5.heap[b]? ∧ w'.heap[B1]? = w5.heap[B1]?) (by kernel_rfl) ⟨rfl, rfl⟩ (fun hHeld => ?_)
    refine B.Till.take (i := 0) (oi := ⟨some 28, .move (.tmp 0), 110, "roam.go:113", #[], none⟩) (v := .pointer (some ⟨b, 0, none⟩)) rfl (by kernel_rfl) (by kernel_rfl) (by kernel_rfl) (by kernel_rfl) (fun _ _ _ h => h) (Or.inl ⟨by rfl, fun w0 hS0 => ?_⟩) (by assumption) ?_
    · go_simp
    try simp only [Act.put, lt, l0, ls]
    refine B.Till.take (i := 1) (oi := ⟨some 29, .move (.tmp 0), 110, "roam.go:113", #[], none⟩) (v := .pointer (some ⟨b, 0, none⟩)) rfl (by kernel_rfl) (by kernel_rfl) (by kernel_rfl) (by kernel_rfl) (fun _ _ _ h => h) (Or.inl ⟨by rfl, fun w0 hS0 => ?_⟩) (by assumption) ?_
    · go_simp
    try simp only [Act.put, lt, l0, ls]
    refine B.Till.take (i := 2) (oi := ⟨some 30, .nilCheck (.tmp 29), 0, "roam.go:113", #[⟨1, .data⟩], none⟩) (v := .pointer (some ⟨b, 0, none⟩)) rfl (by kernel_rfl) (by kernel_rfl) (by kernel_rfl) (by kernel_rfl) (fun _ _ _ h => h) (Or.inl ⟨by rfl, fun w0 hS0 => ?_⟩) (by assumption) ?_
    · go_simp
    try simp only [Act.put, lt, l0, ls]
    refine B.Till.take (i := 3) (oi := ⟨some 31, .fieldAddr 95 (.tmp 30) 5, 0, "roam.go:113", #[⟨2, .data⟩], none⟩) (v := .pointer (some ⟨b, 6, none⟩)) rfl (by kernel_rfl) (by kernel_rfl) (by kernel_rfl) (by kernel_rfl) (fun _ _ _ h => h) (Or.inl ⟨by rfl, fun w0 hS0 => ?_⟩) (by assumption) ?_
    · go_simp
    try simp only [Act.put, lt, l0, ls]
    refine B.Till.take (i := 4) (oi := ⟨some 32, .load 79 (.tmp 31), 79, "roam.go:113", #[⟨3, .data⟩], none⟩) (v := vv) rfl (by kernel_rfl) (by kernel_rfl) (by kernel_rfl) (by kernel_rfl) (fun _ _ _ h => h) (Or.inl ⟨by rfl, fun w0 hS0 => ?_⟩) (by assumption) ?_
    · have c6 := (HRy.out.cb hS0.1).2.1; go_simp
    try simp only [Act.put, lt, l0, ls]
    refine B.Till.take (i := 5) (oi := ⟨some 33, .load 82 (.tmp 3), 82, "roam.go:113", #[], none⟩) (v := .agg #[.int .i64 (errV v er).id, .int .i64 (errV v er).depth, .string (errV v er).name, .string (errV v er).base, .bool (errV v er).last, .bool (errV v er).over, .int .i64 (errV v er).err]) rfl (by kernel_rfl) (by kernel_rfl) (by kernel_rfl) (by kernel_rfl) (fun _ _ _ h => h) (Or.inl ⟨by rfl, fun w0 hS0 => ?_⟩) (by assumption) ?_
    · obtain ⟨r0, r1, r2, r3, r4, r5, r6⟩ := HRy.out.cx hS0.2; go_simp
    try simp only [Act.put, lt, l0, ls]
    refine B.Till.next (i := 6) (o := ⟨some 34, .buildSlice 79 1 #[(0, .tmp 33)], 79, "roam.go:113", #[⟨5, .data⟩], none⟩) (by kernel_rfl) rfl (fun K hK => ?_)
    go_simp
    refine hK.out _ _ (fun _ => ⟨(heap_alloc_old _ _ HRy.out.lb).trans hHeld.1, (heap_alloc_old _ _ HRy.out.lx).trans hHeld.2⟩) ?_
    clear hK K
    try simp only [Act.put, lt, l0, ls]
    refine B.Till.next (i := 7) (o := ⟨some 35, .call ⟨.builtin .append, #[.tmp 32, .tmp 34], #[79, 79]⟩, 79, "roam.go:113", #[⟨4, .data⟩, ⟨6, .data⟩], none⟩) (by kernel_rfl) rfl (fun K hK => ?_)
    refine step_append_lies _ rfl (.tmp 32) (.tmp 34) 79 rfl R 82 i0 _ 7 64 Tryz.underlying79 hi0 hz0 hz1 hz2 rfl (by decide) vv D.length (rowsC visC D) (by simp [Act.eval]) (HRy.out.wk.keep (drew_alloc _ _)).vis ⟨w5.heap.size, 0, none⟩ 1 1 (visC (errV v er)) (by simp [Act.eval]) rfl (World.news_of_block (heap_alloc_new _ _)) (visC_one _) (by decide) (by unfold maxLen; omega) (by omega) (HRy.out.wk.keep (drew_alloc _ _)).rle _ rfl ?_
    intro g1 cap1 w4 hown hgrow hat hlt1
    have hS4 : w4.heap[b]? = w5.heap[b]? ∧ w4.heap[B1]? = w5.heap[B1]? := ⟨(hgrow.block _ (lt_drew_alloc HRy.out.lb _) HRy.out.neb).trans (heap_alloc_old _ _ HRy.out.lb), (hgrow.block _ (lt_drew_alloc HRy.out.lx _) HRy.out.nx).trans (heap_alloc_old _ _ HRy.out.lx)⟩
    have HW4 := Lib.hid ((HRy.out.wk.keep (drew_alloc _ _)).visit (E := [(errV v er)]) hown hgrow)
    clear hown hgrow hat hlt1
    refine hK.out _ _ (fun _ => hS4) ?_
    clear hK K
    try simp only [Act.put, lt, l0, ls]
    refine B.Till.next (i := 8) (o := ⟨some 36, .nilCheck (.tmp 28), 0, "roam.go:113", #[⟨0, .data⟩, ⟨0, .phase⟩, ⟨1, .phase⟩, ⟨2, .phase⟩, ⟨3, .phase⟩, ⟨4, .phase⟩, ⟨5, .phase⟩, ⟨6, .phase⟩, ⟨7, .phase⟩], none⟩) (by kernel_rfl) rfl (fun K hK => ?_)
    go_simp
    refine hK.out _ _ (fun _ => hS4) ?_
    clear hK K
    try simp only [Act.put, lt, l0, ls]
    refine B.Till.next (i := 9) (o := ⟨some 37, .fieldAddr 95 (.tmp 36) 5, 0, "roam.go:113", #[⟨8, .data⟩, ⟨0, .phase⟩, ⟨1, .phase⟩, ⟨2, .phase⟩, ⟨3, .phase⟩, ⟨4, .phase⟩, ⟨5, .phase⟩, ⟨6, .phase⟩, ⟨7, .phase⟩], none⟩) (by kernel_rfl) rfl (fun K hK => ?_)
    go_simp
    refine hK.out _ _ (fun _ => hS4) ?_
    clear hK K
    try simp only [Act.put, lt, l0, ls]
    refine B.Till.next (i := 10) (o := ⟨none, .store 79 (.tmp 37) (.tmp 35), 0, "roam.go:113", #[⟨9, .data⟩, ⟨7, .data⟩, ⟨7, .chain⟩, ⟨0, .phase⟩, ⟨1, .phase⟩, ⟨2, .phase⟩, ⟨3, .phase⟩, ⟨4, .phase⟩, ⟨5, .phase⟩, ⟨6, .phase⟩, ⟨7, .phase⟩], none⟩) (by kernel_rfl) rfl (fun K hK => ?_)
    obtain ⟨_, c6, f6⟩ := HRy.out.cb hS4.1
    go_simp
    refine hK.out _ _ (fun q => absurd rfl q) ?_
    clear hK K
    try simp only [Act.put, lt, l0, ls]
    refine B.Till.done (by kernel_rfl) ?_
-- TILL 1 END
    go_wp2_with fail
    exact bodyPost_ret (v := .tuple #[]) (by simp [results, Tryz.results33, go_sem]) rfl ⟨rfl, .inl ⟨HE.out, _, HW4.out⟩⟩
end
end Go.Proofs.YtpikndeefiediaaGreatDoor.G
