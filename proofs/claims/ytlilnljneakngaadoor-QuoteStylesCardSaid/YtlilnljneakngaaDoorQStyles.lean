/-
  QuoteStyles returns true: what is quoted is the chapter's. Conditions: the library's tables lie.
-/
import Derived.Test.YtlilnljneakngaaDoorQRefQ
import Derived.Test.YtlilnljneakngaaDoorQQuote
set_option linter.unusedVariables false
namespace Go.Proofs.YtlilnljneakngaaDoor
open Go.RowKit

set_option maxHeartbeats 1000000 in
set_option maxRecDepth 100000 in
theorem styles_any (style : Int) (s : ByteArray) (w : World) (hT : Tab w) :
    Calls Tryd.prog 4 #[.int .i64 style, .string s] w fun e w' => e = .returned (.bool true) ∧ Below w.heap.size w w' := by
  by_cases hlong : 200 < s.size
  · go_enter Tryd.func4, Tryd.ntmps4
    go_wp2_with fail
    refine (awake_any w hT).mono ?_
    rintro e w2 ⟨rfl, hb2⟩
    go_wp2_with fail
    refine (awake_any w2 (hT.keep hb2)).mono ?_
    rintro e w3 ⟨rfl, hb3⟩
    go_wp2_with fail
    go_ret
    exact ⟨rfl, below_two hb2 hb3⟩
  · have c1 := fun w h => quote_any style s w h (by omega)
    have c2 := fun w => refQuote_any style s w (by omega)
    generalize T (quoteP style (L s)) = a at *
    have ha : (a.toList == a.toList) = true := beq_self_eq_true _
    go_enter Tryd.func4, Tryd.ntmps4
    go_wp2_with fail
    refine (awake_any w hT).mono ?_
    rintro e w2 ⟨rfl, b2⟩
    go_wp2_with fail
    refine (c1 w2 (hT.keep b2)).mono ?_
    rintro e w3 ⟨rfl, hb⟩
    have b3 := below_two b2 hb
    clear hb b2
    go_wp2_with fail
    refine (c2 w3).mono ?_
    rintro e w4 ⟨rfl, hb⟩
    have b4 := below_two b3 hb
    clear hb b3
    go_wp2_with fail
    go_ret
    exact ⟨rfl, b4⟩
end Go.Proofs.YtlilnljneakngaaDoor
