/-
  What path.Names and the reference's Names return: a path's names, and whether it begins, and ends, with a slash. Conditions: at most 100000 bytes.
-/
import Derived.Test.YtemjlamgnkjejaaDoorHNamesM
import Derived.Test.YtemjlamgnkjejaaDoorShelf
import Derived.Test.YtemjlamgnkjejaaDoorRows
import Derived.WalkKit
import Derived.WalkSpells
import Derived.WalkLawsBesides
import Derived.OwnWalk
import Derived.Deep.AppendLies
import Derived.Lib.Hide
import Derived.Shelf.GgClosure.Gives
set_option linter.unusedVariables false
namespace Go.Proofs.YtemjlamgnkjejaaDoor
open Go.RowKit Go.Shelf

def strs (l : List ByteArray) : List Value := l.map Value.string
def beginsB (s : ByteArray) : Bool := Lib.hasPrefix s.data.toList [47]
def endsB (s : ByteArray) : Bool := Lib.hasSuffix s.data.toList [47]

theorem clo_pays (w : World) : PredAt Tryd.prog 31 #[] encR isSl w := fun W r _ => by
  unfold FnGives
  go_enter Tryd.func31, Tryd.ntmps31
  go_wp2
  go_ret
  refine ⟨?_, 0, rfl⟩
  have e : ((r : Int) == 47) = isSl r := by
    unfold isSl
    rw [Bool.eq_iff_iff, beq_iff_eq, beq_iff_eq]
    omega
  rw [e]
  rfl

theorem names_any (s : ByteArray) (w : World) (hs : s.size ≤ 100000) :
    Calls Tryd.prog 16 #[.string s] w fun e w' => ∃ A, e = .returned (.tuple #[.slice (some ⟨A, 0, none⟩) (namesL s).length (namesL s).length, .bool (beginsB s), .bool (endsB s)]) ∧ w.heap.size ≤ A ∧
      w'.ownsRow w.heap.size 9 1 (.slice (some ⟨A, 0, none⟩) (namesL s).length (namesL s).length) (namesL s).length (strs (namesL s)) ∧ Below w.heap.size w w' := by
  have cF : Calls Tryd.prog 30 #[.string s, .func (.func 31) #[] #[]] w _ := Tryd.strings_FieldsFunc 31 #[] (enters_of Tryd.func31 (by kernel_rfl) rfl) isSl s w (by omega) (clo_pays w)
  rw [fields_names] at cF
  have HC := Lib.hid cF
  clear cF
  go_enter Tryd.func16, Tryd.ntmps16
  go_wp2_with (first
    | (go_at_call 30; refine HC.out.mono ?_; rintro e w2 ⟨A, rfl, hA, hown, hb⟩; have HO := Lib.hid hown; have HB := Lib.hid hb; clear hown hb)
    | (go_at_call 32; refine (Tryd.strings_HasPrefix _ _ _).mono ?_; rintro e w3 ⟨rfl, hw⟩; subst hw)
    | (go_at_call 33; refine (Tryd.strings_HasSuffix _ _ _ (by omega)).mono ?_; rintro e w3 ⟨rfl, hw⟩; subst hw))
  exact bodyPost_ret (v := .tuple #[.slice (some ⟨A, 0, none⟩) (namesL s).length (namesL s).length, .bool (beginsB s), .bool (endsB s)]) (by simp [results, Tryd.results16, go_sem, beginsB, endsB]) rfl ⟨A, rfl, hA, HO.out, HB.out⟩

/-- What the reference's loop holds: i bytes are read. -/
def RNmRel (s : ByteArray) (w : World) (v f i : Value) (wr : World) : Prop :=
  ∃ k : Nat, k ≤ s.size + 1 ∧ i = .int .i64 (k : Int) ∧ f = .int .i64 ((nmGo s k).2 : Int) ∧ Hid (Below w.heap.size w wr) ∧ Hid (wr.ownsRow w.heap.size 9 1 v (nmGo s k).1.length ((nmGo s k).1.map fun x => .string (s.extract x.1 x.2)))
theorem infoStr : (Tryd.prog.info? 9).map (fun i => (i.zero, i.size, i.bytes)) = some (some (.string ⟨#[]⟩), 1, 16) := by kernel_rfl

end Go.Proofs.YtemjlamgnkjejaaDoor
