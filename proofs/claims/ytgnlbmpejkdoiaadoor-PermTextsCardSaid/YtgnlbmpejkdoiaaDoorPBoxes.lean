/-
  The boxes of a node and of who asks; awake; the mode cut to twelve bits. Conditions: the table of classes lies as its text lays it.
-/
import Derived.Test.YtgnlbmpejkdoiaaDoorPTextAny
import Derived.Test.YtgnlbmpejkdoiaaDoorPRefMay
set_option linter.unusedVariables false
namespace Go.Proofs.YtgnlbmpejkdoiaaDoor
open Go.RowKit

def cellsN (n : Nv) : List Value := [.int .i64 n.dev, .int .i64 n.ino, .int .i64 n.kind, .int .i64 n.mode, .int .i64 n.uid, .int .i64 n.gid, .int .i64 n.size, .int .i64 n.blocks, .int .i64 n.links, .int .i64 n.ta, .int .i64 n.tb, .int .i64 n.tc, .string n.target]
/-- In w the node's box lies at B, and the asker's behind it; nothing of W has changed. -/
structure Boxes (W : World) (B : Nat) (n : Nv) (u g : Int) (w : World) : Prop where
  node : w.rangeAt B 0 (cellsN n)
  cred : w.rangeAt (B + 1) 0 [.int .i64 u, .int .i64 g]
  below : Below W.heap.size W w
theorem range_keep {w w' : World} {b o : Nat} {cs : List Value} (h : w.rangeAt b o cs) (hb : Below w.heap.size w w') : w'.rangeAt b o cs :=
  fun j v hj => by rw [hb.cell (p := ⟨b, o + j, none⟩) (cell_lt (h j v hj))]; exact h j v hj
theorem Boxes.keep {W : World} {B : Nat} {n : Nv} {u g : Int} {w w' : World} (h : Boxes W B n u g w) (hb : Below w.heap.size w w') : Boxes W B n u g w' :=
  ⟨range_keep h.node hb, range_keep h.cred hb, below_two h.below hb⟩
theorem Boxes.drew {W : World} {B : Nat} {n : Nv} {u g : Int} {w : World} (h : Boxes W B n u g w) : Boxes W B n u g w.drew := ⟨h.node, h.cred, h.below.trans ⟨rfl, rfl, rfl, Nat.le_refl _, fun _ _ => rfl⟩⟩
theorem Boxes.cells {W : World} {B : Nat} {n : Nv} {u g : Int} {w : World} (h : Boxes W B n u g w) : w.cell? ⟨B, 0, none⟩ = some (.int .i64 n.dev) ∧ w.cell? ⟨B, 1, none⟩ = some (.int .i64 n.ino) ∧ w.cell? ⟨B, 2, none⟩ = some (.int .i64 n.kind) ∧ w.cell? ⟨B, 3, none⟩ = some (.int .i64 n.mode) ∧ w.cell? ⟨B, 4, none⟩ = some (.int .i64 n.uid) ∧ w.cell? ⟨B, 5, none⟩ = some (.int .i64 n.gid) ∧ w.cell? ⟨B, 6, none⟩ = some (.int .i64 n.size) ∧ w.cell? ⟨B, 7, none⟩ = some (.int .i64 n.blocks) ∧ w.cell? ⟨B, 8, none⟩ = some (.int .i64 n.links) ∧ w.cell? ⟨B, 9, none⟩ = some (.int .i64 n.ta) ∧ w.cell? ⟨B, 10, none⟩ = some (.int .i64 n.tb) ∧ w.cell? ⟨B, 11, none⟩ = some (.int .i64 n.tc) ∧ w.cell? ⟨B, 12, none⟩ = some (.string n.target) ∧ w.cell? ⟨B + 1, 0, none⟩ = some (.int .i64 u) ∧ w.cell? ⟨B + 1, 1, none⟩ = some (.int .i64 g) :=
  ⟨h.node 0 _ rfl, h.node 1 _ rfl, h.node 2 _ rfl, h.node 3 _ rfl, h.node 4 _ rfl, h.node 5 _ rfl, h.node 6 _ rfl, h.node 7 _ rfl, h.node 8 _ rfl, h.node 9 _ rfl, h.node 10 _ rfl, h.node 11 _ rfl, h.node 12 _ rfl, h.cred 0 _ rfl, h.cred 1 _ rfl⟩
theorem boxes_of {W : World} {B : Nat} {n : Nv} {u g : Int} {w : World} (h : w.cell? ⟨B, 0, none⟩ = some (.int .i64 n.dev) ∧ w.cell? ⟨B, 1, none⟩ = some (.int .i64 n.ino) ∧ w.cell? ⟨B, 2, none⟩ = some (.int .i64 n.kind) ∧ w.cell? ⟨B, 3, none⟩ = some (.int .i64 n.mode) ∧ w.cell? ⟨B, 4, none⟩ = some (.int .i64 n.uid) ∧ w.cell? ⟨B, 5, none⟩ = some (.int .i64 n.gid) ∧ w.cell? ⟨B, 6, none⟩ = some (.int .i64 n.size) ∧ w.cell? ⟨B, 7, none⟩ = some (.int .i64 n.blocks) ∧ w.cell? ⟨B, 8, none⟩ = some (.int .i64 n.links) ∧ w.cell? ⟨B, 9, none⟩ = some (.int .i64 n.ta) ∧ w.cell? ⟨B, 10, none⟩ = some (.int .i64 n.tb) ∧ w.cell? ⟨B, 11, none⟩ = some (.int .i64 n.tc) ∧ w.cell? ⟨B, 12, none⟩ = some (.string n.target) ∧ w.cell? ⟨B + 1, 0, none⟩ = some (.int .i64 u) ∧ w.cell? ⟨B + 1, 1, none⟩ = some (.int .i64 g)) (hb : Below W.heap.size W w) : Boxes W B n u g w := by
  obtain ⟨c0, c1, c2, c3, c4, c5, c6, c7, c8, c9, c10, c11, c12, c13, c14⟩ := h
  refine ⟨fun j v hj => ?_, fun j v hj => ?_, hb⟩
  · have hl : j < 13 := (List.getElem?_eq_some_iff.1 hj).1
    match j, hl, hj with
    | 0, _, hj => cases Option.some.inj hj; exact c0
    | 1, _, hj => cases Option.some.inj hj; exact c1
    | 2, _, hj => cases Option.some.inj hj; exact c2
    | 3, _, hj => cases Option.some.inj hj; exact c3
    | 4, _, hj => cases Option.some.inj hj; exact c4
    | 5, _, hj => cases Option.some.inj hj; exact c5
    | 6, _, hj => cases Option.some.inj hj; exact c6
    | 7, _, hj => cases Option.some.inj hj; exact c7
    | 8, _, hj => cases Option.some.inj hj; exact c8
    | 9, _, hj => cases Option.some.inj hj; exact c9
    | 10, _, hj => cases Option.some.inj hj; exact c10
    | 11, _, hj => cases Option.some.inj hj; exact c11
    | 12, _, hj => cases Option.some.inj hj; exact c12
  · have hl : j < 2 := (List.getElem?_eq_some_iff.1 hj).1
    match j, hl, hj with
    | 0, _, hj => cases Option.some.inj hj; exact c13
    | 1, _, hj => cases Option.some.inj hj; exact c14
theorem sizeNodeV (n : Nv) : (Tryd.prog.info? 24).map (·.size) = some (cellsN n).length := by
  rw [show (cellsN n).length = 13 from rfl]
  kernel_rfl
theorem sizeCredV (u g : Int) : (Tryd.prog.info? 26).map (·.size) = some [Value.int .i64 u, Value.int .i64 g].length := by
  rw [show [Value.int .i64 u, Value.int .i64 g].length = 2 from rfl]
  kernel_rfl
theorem box_step {W : World} {B : Nat} {n : Nv} {u g : Int} {w : World} (k : Boxes W B n u g w) {f : FuncId} {args : Array Value} {v : Value}
    (h : Calls Tryd.prog f args w fun e w' => e = .returned v ∧ Below w.heap.size w w') : Calls Tryd.prog f args w fun e w' => e = .returned v ∧ Boxes W B n u g w' := h.mono fun _ _ ⟨a, b⟩ => ⟨a, k.keep b⟩

/-- The mode cut to its twelve lowest bits. -/
def cutM (n : Nv) : Nv := { n with mode := n.mode % 4096 }
theorem awake_eq : txt (textP 2 1023) = ⟨#[100, 114, 119, 120, 114, 119, 120, 114, 119, 116]⟩ := by decide
theorem awake_any (w : World) (ht : Tab w) :
    Calls Tryd.prog 6 #[] w fun e w' => e = .returned (.bool true) ∧ Below w.heap.size w w' := by
  have H1 := Lib.hid (text_any ⟨0, 0, 2, 1023, 0, 0, 0, 0, 0, 0, 0, 0, ⟨#[]⟩⟩ w ht)
  unfold nodeV at H1
  go_enter Tryd.func6, Tryd.ntmps6
  go_wp2_with fail
  refine H1.out.mono ?_
  rintro e w1 ⟨rfl, hb⟩
  rw [awake_eq]
  go_wp2_with fail
  go_ret
  exact ⟨rfl, hb⟩
end Go.Proofs.YtgnlbmpejkdoiaaDoor
