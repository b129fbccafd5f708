/-
  QuoteBack returns true: what is quoted is read as it was. Conditions: the library's tables lie.
-/
import Derived.Test.YtlilnljneakngaaDoorQShell
set_option linter.unusedVariables false
namespace Go.Proofs.YtlilnljneakngaaDoor
open Go.RowKit

theorem quoted_size (style : Int) (s : ByteArray) (hs : s.size ≤ 200) : (T (quoteP style (L s))).size ≤ 1000000 := by
  have := quoteP_len style (L s)
  rw [L_len] at this
  rw [T_size]
  omega
theorem shell_back (style : Int) (s : ByteArray) (hs : s.size ≤ 200) (hb : shP (quoteP style (L s)) = some (L s)) (w : World) (hT : Tab w) :
    Calls Tryd.prog 11 #[.string (T (quoteP style (L s)))] w fun e w' => e = .returned (.tuple #[.string s, .bool true]) ∧ Below w.heap.size w w' := by
  have h := shell_any (T (quoteP style (L s))) w hT (quoted_size style s hs)
  rw [L_T, hb] at h
  refine h.mono ?_
  rintro e w' ⟨rfl, hb⟩
  refine ⟨?_, hb⟩
  show Ending.returned (.tuple #[.string (T (L s)), .bool true]) = _
  rw [T_L]
theorem c_back (s : ByteArray) (hs : s.size ≤ 200) (w : World) :
    Calls Tryd.prog 13 #[.string (T (quoteP 4 (L s)))] w fun e w' => e = .returned (.tuple #[.string s, .bool true]) ∧ Below w.heap.size w w' := by
  have h := c_any (T (quoteP 4 (L s))) w (quoted_size 4 s hs)
  rw [L_T, back4] at h
  refine h.mono ?_
  rintro e w' ⟨rfl, hb⟩
  refine ⟨?_, hb⟩
  show Ending.returned (.tuple #[.string (T (L s)), .bool true]) = _
  rw [T_L]

set_option maxHeartbeats 1000000 in
set_option maxRecDepth 100000 in
theorem back_any (s : ByteArray) (w : World) (hT : Tab w) :
    Calls Tryd.prog 6 #[.string s] w fun e w' => e = .returned (.bool true) ∧ Below w.heap.size w w' := by
  by_cases hlong : 200 < s.size
  · go_enter Tryd.func6, Tryd.ntmps6
    go_wp2_with fail
    refine (awake_any w hT).mono ?_
    rintro e w2 ⟨rfl, hb2⟩
    go_wp2_with fail
    refine (awake_any w2 (hT.keep hb2)).mono ?_
    rintro e w3 ⟨rfl, hb3⟩
    go_wp2_with fail
    go_ret
    exact ⟨rfl, below_two hb2 hb3⟩
  · have hs : s.size ≤ 200 := by omega
    have c2 := fun w h => shell_back 2 s hs (back2 (L s)) w h
    have c3 := fun w h => shell_back 3 s hs (back3 (L s)) w h
    have c1 := fun w h => shell_back 1 s hs (back1 (L s)) w h
    have c4 := fun w => c_back s hs w
    have q1 := fun w h => quote_any 1 s w h (by omega)
    have q2 := fun w h => quote_any 2 s w h (by omega)
    have q3 := fun w h => quote_any 3 s w h (by omega)
    have q4 := fun w h => quote_any 4 s w h (by omega)
    generalize T (quoteP 1 (L s)) = t1 at *
    generalize T (quoteP 2 (L s)) = t2 at *
    generalize T (quoteP 3 (L s)) = t3 at *
    generalize T (quoteP 4 (L s)) = t4 at *
    have hq : (s.toList == s.toList) = true := beq_self_eq_true _
    go_enter Tryd.func6, Tryd.ntmps6
    go_wp2_with fail
    refine (awake_any w hT).mono ?_
    rintro e w2 ⟨rfl, b2⟩
    go_wp2_with fail
    refine (q2 w2 (hT.keep b2)).mono ?_
    rintro e w3 ⟨rfl, hb⟩
    have b3 := below_two b2 hb
    clear hb b2
    go_wp2_with fail
    refine (c2 w3 (hT.keep b3)).mono ?_
    rintro e w4 ⟨rfl, hb⟩
    have b4 := below_two b3 hb
    clear hb b3
    go_wp2_with fail
    refine (q3 w4 (hT.keep b4)).mono ?_
    rintro e w5 ⟨rfl, hb⟩
    have b5 := below_two b4 hb
    clear hb b4
    go_wp2_with fail
    refine (c3 w5 (hT.keep b5)).mono ?_
    rintro e w6 ⟨rfl, hb⟩
    have b6 := below_two b5 hb
    clear hb b5
    go_wp2_with fail
    refine (q4 w6 (hT.keep b6)).mono ?_
    rintro e w7 ⟨rfl, hb⟩
    have b7 := below_two b6 hb
    clear hb b6
    go_wp2_with fail
    refine (c4 w7).mono ?_
    rintro e w8 ⟨rfl, hb⟩
    have b8 := below_two b7 hb
    clear hb b7
    go_wp2_with fail
    refine (q1 w8 (hT.keep b8)).mono ?_
    rintro e w9 ⟨rfl, hb⟩
    have b9 := below_two b8 hb
    clear hb b8
    go_wp2_with fail
    refine (c1 w9 (hT.keep b9)).mono ?_
    rintro e w10 ⟨rfl, hb⟩
    have b10 := below_two b9 hb
    clear hb b9
    go_wp2_with fail
    go_ret
    exact ⟨rfl, b10⟩
end Go.Proofs.YtlilnljneakngaaDoor
