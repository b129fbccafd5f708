/-
  What the program's closure that compares two places returns. Conditions: the keys and the captured variables lie in memory.
-/
import Derived.Test.YteeddednonmglaaDoorOPr4
set_option linter.unusedVariables false
namespace Go.Proofs.YteeddednonmglaaDoor
open Go.RowKit

/-- What the comparing closure captures. -/
def CapAt (W : World) (bo br bd bl : Nat) (o : Int) (rev dirs : Bool) (a : Option Addr) (n cap : Nat) : Prop :=
  W.cell? ⟨bo, 0, none⟩ = some (.int .i64 o) ∧ W.cell? ⟨br, 0, none⟩ = some (.bool rev) ∧ W.cell? ⟨bd, 0, none⟩ = some (.bool dirs) ∧ W.cell? ⟨bl, 0, none⟩ = some (.slice a n cap)
set_option maxRecDepth 100000 in
set_option maxHeartbeats 8000000 in
theorem pclo_any (o : Int) (rev dirs : Bool) (l : List Ky) (a : Option Addr) (cap : Nat) (i k bo br bd bl : Nat) (w : World) (H : IsKeys w a l) (hl : l.length ≤ 1000000) (hz : ∀ c ∈ l, c.name.size ≤ 60000) (hi : i < l.length) (hk : k < l.length)
    (hcl : ∀ W, Below w.heap.size w W → CapAt W bo br bd bl o rev dirs a l.length cap) :
    Calls Tryd.prog 18 #[.int .i64 (i : Int), .int .i64 (k : Int), .pointer (some ⟨bo, 0, none⟩), .pointer (some ⟨br, 0, none⟩), .pointer (some ⟨bd, 0, none⟩), .pointer (some ⟨bl, 0, none⟩)] w fun e w' => e = .returned (.bool (decide (soC o rev dirs (l.getD i noKy) (l.getD k noKy) < 0))) ∧ Below w.heap.size w w' := by
  obtain ⟨x, hx⟩ : ∃ x, l[i]? = some x := ⟨_, List.getElem?_eq_getElem hi⟩
  obtain ⟨y, hy⟩ : ∃ y, l[k]? = some y := ⟨_, List.getElem?_eq_getElem hk⟩
  rw [getD_at hx, getD_at hy]
  have HA := Lib.hid (fun W => pahead_any o rev dirs x y W (hz x (List.mem_of_getElem? hx)) (hz y (List.mem_of_getElem? hy)))
  generalize decide (soC o rev dirs x y < 0) = R at HA ⊢
  obtain ⟨g, of, rfl, hg, hr1⟩ := H.at_ hx
  obtain ⟨g2, of2, e2, _, hr2⟩ := H.at_ hy
  simp only [Option.some.injEq, Addr.mk.injEq] at e2
  obtain ⟨rfl, rfl, _⟩ := e2
  have HRx := Lib.hid (show ∀ W, Below w.heap.size w W → W.cell? ⟨g, of + i * 4, none⟩ = some (.string x.name) ∧ W.cell? ⟨g, of + i * 4 + 1, none⟩ = some (.int .i64 x.size) ∧ W.cell? ⟨g, of + i * 4 + 2, none⟩ = some (.int .i64 x.time) ∧ W.cell? ⟨g, of + i * 4 + 3, none⟩ = some (.bool x.dir) from fun W hb =>
    ⟨(hb.cell (p := ⟨g, _, none⟩) hg).trans (hr1 0 _ rfl), (hb.cell (p := ⟨g, _, none⟩) hg).trans (hr1 1 _ rfl), (hb.cell (p := ⟨g, _, none⟩) hg).trans (hr1 2 _ rfl), (hb.cell (p := ⟨g, _, none⟩) hg).trans (hr1 3 _ rfl)⟩)
  have HRy := Lib.hid (show ∀ W, Below w.heap.size w W → W.cell? ⟨g, of + k * 4, none⟩ = some (.string y.name) ∧ W.cell? ⟨g, of + k * 4 + 1, none⟩ = some (.int .i64 y.size) ∧ W.cell? ⟨g, of + k * 4 + 2, none⟩ = some (.int .i64 y.time) ∧ W.cell? ⟨g, of + k * 4 + 3, none⟩ = some (.bool y.dir) from fun W hb =>
    ⟨(hb.cell (p := ⟨g, _, none⟩) hg).trans (hr2 0 _ rfl), (hb.cell (p := ⟨g, _, none⟩) hg).trans (hr2 1 _ rfl), (hb.cell (p := ⟨g, _, none⟩) hg).trans (hr2 2 _ rfl), (hb.cell (p := ⟨g, _, none⟩) hg).trans (hr2 3 _ rfl)⟩)
  have HC := Lib.hid hcl
  clear hr1 hr2 hx hy hz H hcl
  unfold kyV at HA
  go_enter Tryd.func18, Tryd.ntmps18
  go_upto_region 1 with fail
-- TILL 1
  refine Till.region (z := 1000) (S := fun w' => Below w.heap.size w w') (by kernel_rfl) ((Below.refl _ _).drew) (fun hHeld => ?_)
  refine Till.takeA (i := 0) (oi := { dst := some 9, op := Op.load 3 (Operand.tmp 2), type := 3, pos := "order.go:54", after := #[], guard := none }) (v := .int .i64 o) rfl (by kernel_rfl) (by kernel_rfl) (by kernel_rfl) (by rfl) (fun _ _ _ h => h) (Or.inl ⟨by rfl, fun w0 hS0 => ?_⟩) (by assumption) ?_
  · obtain ⟨r0, r1, r2, r3⟩ := HC.out _ hS0; go_simp
  try simp only [Act.put, List.setIfInBounds_toArray, List.set_cons_zero, List.set_cons_succ]
  refine Till.takeA (i := 1) (oi := { dst := some 10, op := Op.load 4 (Operand.tmp 3), type := 4, pos := "order.go:54", after := #[], guard := none }) (v := .bool rev) rfl (by kernel_rfl) (by kernel_rfl) (by kernel_rfl) (by rfl) (fun _ _ _ h => h) (Or.inl ⟨by rfl, fun w0 hS0 => ?_⟩) (by assumption) ?_
  · obtain ⟨r0, r1, r2, r3⟩ := HC.out _ hS0; go_simp
  try simp only [Act.put, List.setIfInBounds_toArray, List.set_cons_zero, List.set_cons_succ]
  refine Till.takeA (i := 2) (oi := { dst := some 11, op := Op.load 4 (Operand.tmp 4), type := 4, pos := "order.go:54", after := #[], guard := none }) (v := .bool dirs) rfl (by kernel_rfl) (by kernel_rfl) (by kernel_rfl) (by rfl) (fun _ _ _ h => h) (Or.inl ⟨by rfl, fun w0 hS0 => ?_⟩) (by assumption) ?_
  · obtain ⟨r0, r1, r2, r3⟩ := HC.out _ hS0; go_simp
  try simp only [Act.put, List.setIfInBounds_toArray, List.set_cons_zero, List.set_cons_succ]
  refine Till.takeA (i := 3) (oi := { dst := some 12, op := Op.load 22 (Operand.tmp 5), type := 22, pos := "order.go:54", after := #[], guard := none }) (v := .slice (some ⟨g, of, none⟩) l.length cap) rfl (by kernel_rfl) (by kernel_rfl) (by kernel_rfl) (by rfl) (fun _ _ _ h => h) (Or.inl ⟨by rfl, fun w0 hS0 => ?_⟩) (by assumption) ?_
  · obtain ⟨r0, r1, r2, r3⟩ := HC.out _ hS0; go_simp
  try simp only [Act.put, List.setIfInBounds_toArray, List.set_cons_zero, List.set_cons_succ]
  refine Till.takeA (i := 4) (oi := { dst := some 13, op := Op.move (Operand.tmp 0), type := 3, pos := "order.go:54", after := #[], guard := none }) (v := .int .i64 (i : Int)) rfl (by kernel_rfl) (by kernel_rfl) (by kernel_rfl) (by rfl) (fun _ _ _ h => h) (Or.inl ⟨by rfl, fun w0 hS0 => ?_⟩) (by assumption) ?_
  · go_simp
  try simp only [Act.put, List.setIfInBounds_toArray, List.set_cons_zero, List.set_cons_succ]
  refine Till.takeA (i := 5) (oi := { dst := some 14, op := Op.indexAddr 22 (Operand.tmp 12) (Operand.tmp 13), type := 0, pos := "order.go:54", after := #[{ on := 3, ground := Ground.data }, { on := 4, ground := Ground.data }], guard := none }) (v := .pointer (some ⟨g, (of + i * 4), none⟩)) rfl (by kernel_rfl) (by kernel_rfl) (by kernel_rfl) (by rfl) (fun _ _ _ h => h) (Or.inl ⟨by rfl, fun w0 hS0 => ?_⟩) (by assumption) ?_
  · go_simp
  try simp only [Act.put, List.setIfInBounds_toArray, List.set_cons_zero, List.set_cons_succ]
  refine Till.takeA (i := 6) (oi := { dst := some 15, op := Op.load 26 (Operand.tmp 14), type := 26, pos := "order.go:54", after := #[{ on := 5, ground := Ground.data }], guard := none }) (v := .agg #[.string x.name, .int .i64 x.size, .int .i64 x.time, .bool x.dir]) rfl (by kernel_rfl) (by kernel_rfl) (by kernel_rfl) (by rfl) (fun _ _ _ h => h) (Or.inl ⟨by rfl, fun w0 hS0 => ?_⟩) (by assumption) ?_
  · obtain ⟨r0, r1, r2, r3⟩ := HRx.out _ hS0; go_simp
  try simp only [Act.put, List.setIfInBounds_toArray, List.set_cons_zero, List.set_cons_succ]
  refine Till.takeA (i := 7) (oi := { dst := some 16, op := Op.load 22 (Operand.tmp 5), type := 22, pos := "order.go:54", after := #[], guard := none }) (v := .slice (some ⟨g, of, none⟩) l.length cap) rfl (by kernel_rfl) (by kernel_rfl) (by kernel_rfl) (by rfl) (fun _ _ _ h => h) (Or.inl ⟨by rfl, fun w0 hS0 => ?_⟩) (by assumption) ?_
  · obtain ⟨r0, r1, r2, r3⟩ := HC.out _ hS0; go_simp
  try simp only [Act.put, List.setIfInBounds_toArray, List.set_cons_zero, List.set_cons_succ]
  refine Till.takeA (i := 8) (oi := { dst := some 17, op := Op.move (Operand.tmp 1), type := 3, pos := "order.go:54", after := #[], guard := none }) (v := .int .i64 (k : Int)) rfl (by kernel_rfl) (by kernel_rfl) (by kernel_rfl) (by rfl) (fun _ _ _ h => h) (Or.inl ⟨by rfl, fun w0 hS0 => ?_⟩) (by assumption) ?_
  · go_simp
  try simp only [Act.put, List.setIfInBounds_toArray, List.set_cons_zero, List.set_cons_succ]
  refine Till.takeA (i := 9) (oi := { dst := some 18, op := Op.indexAddr 22 (Operand.tmp 16) (Operand.tmp 17), type := 0, pos := "order.go:54", after := #[{ on := 7, ground := Ground.data }, { on := 8, ground := Ground.data }], guard := none }) (v := .pointer (some ⟨g, (of + k * 4), none⟩)) rfl (by kernel_rfl) (by kernel_rfl) (by kernel_rfl) (by rfl) (fun _ _ _ h => h) (Or.inl ⟨by rfl, fun w0 hS0 => ?_⟩) (by assumption) ?_
  · go_simp
  try simp only [Act.put, List.setIfInBounds_toArray, List.set_cons_zero, List.set_cons_succ]
  refine Till.takeA (i := 10) (oi := { dst := some 19, op := Op.load 26 (Operand.tmp 18), type := 26, pos := "order.go:54", after := #[{ on := 9, ground := Ground.data }], guard := none }) (v := .agg #[.string y.name, .int .i64 y.size, .int .i64 y.time, .bool y.dir]) rfl (by kernel_rfl) (by kernel_rfl) (by kernel_rfl) (by rfl) (fun _ _ _ h => h) (Or.inl ⟨by rfl, fun w0 hS0 => ?_⟩) (by assumption) ?_
  · obtain ⟨r0, r1, r2, r3⟩ := HRy.out _ hS0; go_simp
  try simp only [Act.put, List.setIfInBounds_toArray, List.set_cons_zero, List.set_cons_succ]
  refine Till.next (i := 11) (o := { dst := some 20, op := Op.call { callee := Callee.value (Operand.func 19), args := #[Operand.tmp 9, Operand.tmp 10, Operand.tmp 11, Operand.tmp 15, Operand.tmp 19], argTypes := #[3, 4, 4, 26, 26] }, type := 4, pos := "order.go:54", after := #[{ on := 0, ground := Ground.data }, { on := 1, ground := Ground.data }, { on := 2, ground := Ground.data }, { on := 6, ground := Ground.data }, { on := 10, ground := Ground.data }], guard := none }) (by kernel_rfl) rfl (fun K hK => ?_)
  go_simp
  refine (HA.out _).mono ?_
  rintro e w3 ⟨rfl, hb3⟩
  have hHeld3 : Below w.heap.size w w3 := below_two hHeld hb3
  clear hb3
  go_wp2_with fail
  refine hK.out _ _ (fun _ => hHeld3) ?_
  clear hK K
  try simp only [Act.put, List.setIfInBounds_toArray, List.set_cons_zero, List.set_cons_succ]
  refine Till.takeA (i := 12) (oi := { dst := some 8, op := Op.assign (Operand.tmp 20), type := 4, pos := "order.go:54", after := #[{ on := 11, ground := Ground.data }, { on := 11, ground := Ground.chain }, { on := 0, ground := Ground.phase }, { on := 1, ground := Ground.phase }, { on := 2, ground := Ground.phase }, { on := 3, ground := Ground.phase }, { on := 4, ground := Ground.phase }, { on := 5, ground := Ground.phase }, { on := 6, ground := Ground.phase }, { on := 7, ground := Ground.phase }, { on := 8, ground := Ground.phase }, { on := 9, ground := Ground.phase }, { on := 10, ground := Ground.phase }, { on := 11, ground := Ground.phase }], guard := none }) (v := .bool R) rfl (by kernel_rfl) (by kernel_rfl) (by kernel_rfl) (by rfl) (fun _ _ _ h => h) (Or.inl ⟨by rfl, fun w0 hS0 => ?_⟩) (by assumption) ?_
  · go_simp
  try simp only [Act.put, List.setIfInBounds_toArray, List.set_cons_zero, List.set_cons_succ]
  refine Till.done (by kernel_rfl) ?_
-- TILL 1 END
  go_wp2
  go_ret
  exact ⟨rfl, hHeld3⟩
end Go.Proofs.YteeddednonmglaaDoor
