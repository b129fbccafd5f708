/-
  QuoteReads returns true: it is told what a shell, and C, read. Conditions: the library's tables lie.
-/
import Derived.Test.YtlilnljneakngaaDoorQRefShell
import Derived.Test.YtlilnljneakngaaDoorQRefC
set_option linter.unusedVariables false
namespace Go.Proofs.YtlilnljneakngaaDoor
open Go.RowKit

set_option maxHeartbeats 1000000 in
set_option maxRecDepth 100000 in
theorem reads_any (s : ByteArray) (w : World) (hT : Tab w) :
    Calls Tryd.prog 5 #[.string s] w fun e w' => e = .returned (.bool true) ∧ Below w.heap.size w w' := by
  by_cases hlong : 200 < s.size
  · go_enter Tryd.func5, Tryd.ntmps5
    go_wp2_with fail
    refine (awake_any w hT).mono ?_
    rintro e w2 ⟨rfl, hb2⟩
    go_wp2_with fail
    refine (awake_any w2 (hT.keep hb2)).mono ?_
    rintro e w3 ⟨rfl, hb3⟩
    go_wp2_with fail
    go_ret
    exact ⟨rfl, below_two hb2 hb3⟩
  · have c1 := fun w h => shell_any s w h (by omega)
    have c2 := fun w => refShell_any s w (by omega)
    have c3 := fun w => c_any s w (by omega)
    have c4 := fun w => refC_any s w (by omega)
    generalize T (ansT (shP (L s))) = a at *
    generalize T (ansT (cP (L s))) = c at *
    generalize ansB (shP (L s)) = p at *
    generalize ansB (cP (L s)) = q at *
    have ha : (a.toList == a.toList) = true := beq_self_eq_true _
    have hc : (c.toList == c.toList) = true := beq_self_eq_true _
    have hp : (p == p) = true := beq_self_eq_true _
    have hq : (q == q) = true := beq_self_eq_true _
    go_enter Tryd.func5, Tryd.ntmps5
    go_wp2_with fail
    refine (awake_any w hT).mono ?_
    rintro e w2 ⟨rfl, b2⟩
    go_wp2_with fail
    refine (c1 w2 (hT.keep b2)).mono ?_
    rintro e w3 ⟨rfl, hb⟩
    have b3 := below_two b2 hb
    clear hb b2
    go_wp2_with fail
    refine (c2 w3).mono ?_
    rintro e w4 ⟨rfl, hb⟩
    have b4 := below_two b3 hb
    clear hb b3
    go_wp2_with fail
    refine (c3 w4).mono ?_
    rintro e w5 ⟨rfl, hb⟩
    have b5 := below_two b4 hb
    clear hb b4
    go_wp2_with fail
    refine (c4 w5).mono ?_
    rintro e w6 ⟨rfl, hb⟩
    have b6 := below_two b5 hb
    clear hb b5
    go_wp2_with fail
    go_ret
    exact ⟨rfl, b6⟩
end Go.Proofs.YtlilnljneakngaaDoor
