/-
  What quote.run, hasHard and allPlain return. Conditions: the text has at most 1000000 bytes; the library's tables lie.
-/
import Derived.Test.YtlilnljneakngaaDoorQFirst
set_option linter.unusedVariables false
namespace Go.Proofs.YtlilnljneakngaaDoor
open Go.RowKit

def intOf : Value → Int | .int _ q => q | _ => 0
def textOf : Value → ByteArray | .string s => s | _ => ⟨#[]⟩
theorem ret_int {k : IntKind} {a b : Int} (h : a = b) : Ending.returned (.int k a) = .returned (.int k b) := by rw [h]
theorem ret_bool {a b : Bool} (h : a = b) : Ending.returned (.bool a) = .returned (.bool b) := by rw [h]
theorem ret_str {a b : ByteArray} (h : a = b) : Ending.returned (.string a) = .returned (.string b) := by rw [h]

/-- How long the stretch is with which a text begins. -/
def runP (h : Bool) (l : Bytes) : Nat := ((chunks l).takeWhile (fun c => hardC c == h)).flatten.length
theorem runP_nil (h : Bool) : runP h [] = 0 := by unfold runP; rw [chunks_nil]; rfl
theorem runP_stop {h : Bool} {l : Bytes} (hl : l ≠ []) (hc : hardC (l.take (sz l)) ≠ h) : runP h l = 0 := by
  unfold runP
  rw [chunks_step l hl]
  have : (hardC (l.take (sz l)) == h) = false := beq_eq_false_iff_ne.2 hc
  simp [List.takeWhile, this]
theorem runP_step {h : Bool} {l : Bytes} (hl : l ≠ []) (hc : hardC (l.take (sz l)) = h) : runP h l = sz l + runP h (l.drop (sz l)) := by
  unfold runP
  rw [chunks_step l hl]
  have : (hardC (l.take (sz l)) == h) = true := by rw [hc]; exact beq_self_eq_true h
  have h2 := sz_le l hl
  simp only [List.takeWhile, this, List.flatten_cons, List.length_append, List.length_take]
  omega
theorem drop_ne {l : Bytes} {p : Nat} (h : p < l.length) : l.drop p ≠ [] := by
  intro e
  have := congrArg List.length e
  simp at this
  omega
theorem first_at (s : ByteArray) (p K k : Nat) (w : World) (hT : Tab w) (h : p < s.size) (hK : sz ((L s).drop p) = K) (hk : kc (((L s).drop p).take K) = k) :
    Calls Tryd.prog 24 #[.string (s.extract p s.size)] w fun e w' => e = .returned (.tuple #[.int .i64 (k : Int), .int .i64 (K : Int)]) ∧ Below w.heap.size w w' := by
  have h1 : L (s.extract p s.size) ≠ [] := by rw [L_from]; exact drop_ne (by rw [L_len]; exact h)
  refine (first_any (s.extract p s.size) w hT h1).mono ?_
  rintro e w' ⟨rfl, hb⟩
  rw [L_from, hK, hk]
  exact ⟨rfl, hb⟩
theorem first_of (s : ByteArray) (K k : Nat) (w : World) (hT : Tab w) (h : L s ≠ []) (hK : sz (L s) = K) (hk : kc ((L s).take K) = k) :
    Calls Tryd.prog 24 #[.string s] w fun e w' => e = .returned (.tuple #[.int .i64 (k : Int), .int .i64 (K : Int)]) ∧ Below w.heap.size w w' := by
  refine (first_any s w hT h).mono ?_
  rintro e w' ⟨rfl, hb⟩
  rw [hK, hk]
  exact ⟨rfl, hb⟩

def RunRel (s : ByteArray) (h : Bool) (w : World) (v : Value) (w' : World) : Prop := ∃ p : Nat, p ≤ s.size ∧ v = .int .i64 (p : Int) ∧ p + runP h ((L s).drop p) = runP h (L s) ∧ Below w.heap.size w w'

set_option maxHeartbeats 1000000 in
set_option maxRecDepth 100000 in
theorem run_any (s : ByteArray) (h : Bool) (w : World) (hT : Tab w) (hs : s.size ≤ 1000000) :
    Calls Tryd.prog 32 #[.string s, .bool h] w fun e w' => e = .returned (.int .i64 ((runP h (L s) : Nat) : Int)) ∧ Below w.heap.size w w' := by
  go_enter Tryd.func32, Tryd.ntmps32
  go_wp2
  go_loopw [5] (RunRel s h w) (fun i _ => s.size - (intOf i).toNat)
  case atStart => exact ⟨0, Nat.zero_le _, rfl, by rw [List.drop_zero, Nat.zero_add], Below.refl _ _⟩
  case round =>
    obtain ⟨p, hp, rfl, hr, hb⟩ := hrel
    have HB := Lib.hid hb
    have HR := Lib.hid hr
    clear hb hr
    by_cases hlt : p < s.size
    · have hne := Lib.hid (drop_ne (l := L s) (p := p) (by rw [L_len]; exact hlt))
      obtain ⟨K, hK⟩ : ∃ K, sz ((L s).drop p) = K := ⟨_, rfl⟩
      obtain ⟨k, hk⟩ : ∃ k, kc (((L s).drop p).take K) = k := ⟨_, rfl⟩
      have cF := first_at s p K k wr (hT.keep HB.out) hlt hK hk
      have hbd : 1 ≤ K ∧ K ≤ 4 := by rw [← hK]; exact sz_bd _
      have hle : p + K ≤ s.size := by
        have h1 := sz_le _ hne.out
        rw [hK, List.length_drop, L_len] at h1
        omega
      have HK := Lib.hid hK
      have HH : Hid (hardC (((L s).drop p).take K) = (((k : Nat) : Int) == 1)) := Lib.hid (by
        unfold hardC
        rw [hk]
        by_cases h1 : k = 1
        · subst h1; rfl
        · rw [beq_eq_false_iff_ne.2 h1, beq_eq_false_iff_ne.2 (by omega)])
      clear hK hk
      go_wp2_with fail
      refine cF.mono ?_
      rintro e w2 ⟨rfl, hb2⟩
      have HB2 := Lib.hid (below_two HB.out hb2)
      clear hb2
      by_cases hq : (((k : Nat) : Int) == 1) = h
      · subst hq
        go_wp2_with fail
        all_goals try (exfalso; simp_all; done)
        go_roundw
        case rel =>
          refine ⟨p + K, hle, by go_num, ?_, HB2.out⟩
          rw [← HR.out, runP_step hne.out (by rw [HK.out]; exact HH.out), HK.out, List.drop_drop]
          omega
        case measure => simp [intOf]; omega
      · have hq2 : ((((k : Nat) : Int) == 1) != h) = true := by simp [bne, hq]
        go_wp2_with fail
        all_goals try (exfalso; simp_all; done)
        go_ret
        refine ⟨ret_int ?_, HB2.out⟩
        have h0 := runP_stop (h := h) hne.out (by rw [HK.out, HH.out]; exact hq)
        have := HR.out
        rw [h0] at this
        omega
    · go_wp2
      go_ret
      refine ⟨ret_int ?_, HB.out⟩
      have h0 : (L s).drop p = [] := List.drop_eq_nil_of_le (by rw [L_len]; omega)
      have := HR.out
      rw [h0, runP_nil] at this
      omega
end Go.Proofs.YtlilnljneakngaaDoor
