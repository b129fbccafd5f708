/-
  Plain facts on a text's stretches. Conditions: none.
-/
import Derived.Test.YtlilnljneakngaaDoorQSlash
set_option linter.unusedVariables false
namespace Go.Proofs.YtlilnljneakngaaDoor

theorem soft_fun : (fun c => hardC c == false) = (fun c => !hardC c) := by
  funext c
  cases hardC c <;> rfl
theorem hard_fun : (fun c => hardC c == true) = hardC := by
  funext c
  cases hardC c <;> rfl
theorem run_take (h : Bool) (l : Bytes) : l.take (runP h l) = ((chunks l).takeWhile (fun c => hardC c == h)).flatten := by
  have e := run_split h l
  conv => lhs; arg 2; rw [e]
  exact List.take_left
theorem run_drop (h : Bool) (l : Bytes) : l.drop (runP h l) = ((chunks l).dropWhile (fun c => hardC c == h)).flatten := by
  have e := run_split h l
  conv => lhs; arg 2; rw [e]
  exact List.drop_left
theorem run_chunks (h : Bool) (l : Bytes) : chunks (l.drop (runP h l)) = (chunks l).dropWhile (fun c => hardC c == h) := by
  rw [run_drop]
  exact chunks_tail (p := (chunks l).takeWhile (fun c => hardC c == h)) (List.takeWhile_append_dropWhile).symm
theorem run_zero (h : Bool) (l : Bytes) : (chunks l).takeWhile (fun c => hardC c == h) = [] ↔ runP h l = 0 := by
  constructor
  · intro e
    unfold runP
    rw [e]
    rfl
  · intro e
    apply Classical.byContradiction
    intro hn
    have := flat_pos (fun c hc => chunks_chr l c ((List.takeWhile_sublist _).subset hc)) hn
    unfold runP at e
    omega
theorem run_le (h : Bool) (l : Bytes) : runP h l ≤ l.length := by
  have e := congrArg List.length (run_split h l)
  rw [List.length_append] at e
  unfold runP
  omega
theorem run_some {l : Bytes} (hl : l ≠ []) (h0 : runP false l = 0) : 0 < runP true l := by
  have hb := sz_bd l
  by_cases hc : hardC (l.take (sz l)) = true
  · rw [runP_step hl hc]; omega
  · have := runP_step (h := false) hl (by simpa using hc)
    omega
theorem strP_nil : strP [] = [] := by rw [strP]; simp
theorem strP_at {l : Bytes} (hl : l ≠ []) {n1 n2 : Nat} (h1 : runP false l = n1) (h2 : runP true (l.drop n1) = n2) :
    strP (chunks l) = (if n1 = 0 then [] else bt (l.take n1)) ++ ((if n2 = 0 then [] else hardS ((l.drop n1).take n2)) ++ strP (chunks ((l.drop n1).drop n2))) := by
  subst h1; subst h2
  rw [strP, dif_neg (by rw [chunks_step l hl]; simp)]
  rw [run_chunks true, run_take true, run_chunks false, run_take false, hard_fun, soft_fun]
  have e1 : ((chunks l).takeWhile (fun c => !hardC c) = []) = (runP false l = 0) := propext (by rw [← soft_fun]; exact run_zero false l)
  have e2 : (((chunks l).dropWhile (fun c => !hardC c)).takeWhile hardC = []) = (runP true (l.drop (runP false l)) = 0) := propext (by
    rw [← soft_fun, ← run_chunks false]
    have := run_zero true (l.drop (runP false l))
    rw [hard_fun] at this
    exact this)
  simp only [e1, e2]
theorem esc_all_len (l : Bytes) : (l.flatMap esc).length ≤ 4 * l.length := by
  induction l with
  | nil => simp
  | cons b l ih =>
    have := esc_len b
    rw [List.flatMap_cons, List.length_append, List.length_cons]
    omega
theorem hardS_len (l : Bytes) : (hardS l).length ≤ 4 * l.length + 3 := by
  have := esc_all_len l
  unfold hardS
  simp only [List.length_cons, List.length_append, List.length_nil]
  omega
theorem strP_len (l : Bytes) : (strP (chunks l)).length ≤ 7 * l.length := by
  obtain ⟨n, hn⟩ : ∃ n, l.length = n := ⟨_, rfl⟩
  induction n using Nat.strongRecOn generalizing l with
  | _ n ih =>
    by_cases hl : l = []
    · subst hl; rw [chunks_nil, strP_nil]; simp
    · rw [strP_at hl rfl rfl]
      have a1 := run_le false l
      have a2 := run_le true (l.drop (runP false l))
      rw [List.length_drop] at a2
      have a3 : runP false l = 0 → 0 < runP true (l.drop (runP false l)) := fun h0 => by rw [h0, List.drop_zero]; exact run_some hl h0
      have i1 := ih ((l.drop (runP false l)).drop (runP true (l.drop (runP false l)))).length (by
        rw [List.length_drop, List.length_drop]
        omega) _ rfl
      rw [List.length_drop, List.length_drop] at i1
      have b1 := bt_len (l.take (runP false l))
      rw [List.length_take] at b1
      have b2 := hardS_len ((l.drop (runP false l)).take (runP true (l.drop (runP false l))))
      rw [List.length_take, List.length_drop] at b2
      rw [List.length_append, List.length_append]
      split <;> split <;> (try simp only [List.length_nil]) <;> omega
end Go.Proofs.YtlilnljneakngaaDoor
