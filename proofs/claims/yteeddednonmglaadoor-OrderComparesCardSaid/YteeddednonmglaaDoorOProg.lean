/-
  What the program's functions of layer 10 return, in one place. Conditions: names of at most 60000 bytes, at most 1000 keys, which lie in memory.
-/
import Derived.Test.YteeddednonmglaaDoorOSrt
set_option linter.unusedVariables false
namespace Go.Proofs.YteeddednonmglaaDoor
open Go.RowKit

/-- What the program's functions lean on of the package-level variables: nothing. -/
def PT (w : World) : Prop := True
theorem PT.keep {w w' : World} (h : PT w) (hb : Below w.heap.size w w') : PT w' := h
theorem tab_of {P Q : Prop} {W : World} (h : P) (h2 : Q) : PT W := trivial
theorem oext_any (a : ByteArray) (w : World) (hp : PT w) (ha : a.size ≤ 60000) :
    Calls Tryd.prog 13 #[.string a] w fun e w' => e = .returned (.string (mkB (extL a.data.toList))) ∧ Below w.heap.size w w' :=
  (pext_any a w ha).mono fun e w' h => ⟨h.1, by rw [h.2]; exact Below.refl _ _⟩
theorem over_any (a b : ByteArray) (w : World) (hp : PT w) (ha : a.size ≤ 60000) (hb : b.size ≤ 60000) :
    Calls Tryd.prog 15 #[.string a, .string b] w fun e w' => e = .returned (.int .i64 (verL a.data.toList b.data.toList)) ∧ Below w.heap.size w w' := over_any' a b w ha hb
theorem ocmp_any (o : Int) (a b : Ky) (w : World) (hp : PT w) (ha : a.name.size ≤ 60000) (hb : b.name.size ≤ 60000) :
    Calls Tryd.prog 11 #[.int .i64 o, kyV a, kyV b] w fun e w' => e = .returned (.int .i64 (cmpK o a b)) ∧ Below w.heap.size w w' := pcompare_any o a b w ha hb
theorem osort_any (o : Int) (rev dirs : Bool) (l : List Ky) (a : Option Addr) (cap : Nat) (w : World) (hp : PT w) (H : IsKeys w a l) (hl : l.length ≤ 1000) (hz : ∀ c ∈ l, c.name.size ≤ 60000) :
    Calls Tryd.prog 10 #[.int .i64 o, .bool rev, .bool dirs, .slice a l.length cap] w fun e w' => ∃ v p, e = .returned v ∧ Sorted (soC o rev dirs) l p ∧ w'.ownsRow w.heap.size 3 1 v l.length (ints (p.map fun i : Nat => (i : Int))) ∧ Below w.heap.size w w' := psort_any o rev dirs l a cap w H hl hz
end Go.Proofs.YteeddednonmglaaDoor
