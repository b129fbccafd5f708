/-
  A slice of keys, as it lies in memory; what the reference's Few returns. Conditions: what came in lies in memory.
-/
import Derived.Test.YteeddednonmglaaDoorOCmp
set_option linter.unusedVariables false
namespace Go.Proofs.YteeddednonmglaaDoor
open Go.RowKit

/-- The slice at a holds these keys. -/
def IsKeys (w : World) (a : Option Addr) (l : List Ky) : Prop := l = [] ∨ ∃ g o, a = some ⟨g, o, none⟩ ∧ g < w.heap.size ∧ ∀ (k : Nat) (c : Ky), l[k]? = some c → w.rangeAt g (o + k * 4) (kyL c)
theorem IsKeys.keep {w w' : World} {a : Option Addr} {l : List Ky} (h : IsKeys w a l) (hb : Below w.heap.size w w') : IsKeys w' a l := by
  rcases h with h | ⟨g, o, h1, h0, h2⟩
  · exact .inl h
  · exact .inr ⟨g, o, h1, Nat.lt_of_lt_of_le h0 hb.size, fun k c hk j v hj => (hb.cell (p := ⟨g, _, none⟩) h0).trans (h2 k c hk j v hj)⟩
theorem IsKeys.at_ {w : World} {a : Option Addr} {l : List Ky} (h : IsKeys w a l) {k : Nat} {c : Ky} (hk : l[k]? = some c) : ∃ g o, a = some ⟨g, o, none⟩ ∧ g < w.heap.size ∧ w.rangeAt g (o + k * 4) (kyL c) := by
  rcases h with h | ⟨g, o, h1, h0, h2⟩
  · rw [h] at hk; simp at hk
  · exact ⟨g, o, h1, h0, h2 k c hk⟩
def FewK (l : List Ky) : Prop := ∀ (k : Nat) (c : Ky), k < 200 → l[k]? = some c → c.name.size ≤ 300
def FewKRel (l : List Ky) (w : World) (v : Value) (wr : World) : Prop := ∃ k : Nat, k ≤ l.length ∧ k ≤ 200 ∧ v = .int .i64 (k : Int) ∧ wr = w ∧ Hid (∀ (j : Nat) (c : Ky), j < k → l[j]? = some c → c.name.size ≤ 300)

set_option maxRecDepth 100000 in
set_option maxHeartbeats 4000000 in
theorem kfew_any (l : List Ky) (a : Option Addr) (cap : Nat) (n : Int) (w : World) (H : IsKeys w a l) (hl : l.length ≤ 9223372036854775807) (hz : ∀ c ∈ l, c.name.size ≤ 9223372036854775807) :
    Calls Tryd.prog 9 #[.slice a l.length cap, .int .i64 n] w fun e w' => ∃ b : Bool, e = .returned (.bool b) ∧ (b = true ↔ FewK l ∧ (l.length : Int) ≤ n) ∧ w' = w := by
  have HH := Lib.hid H
  have HZ := Lib.hid hz
  clear H hz
  go_enter Tryd.func9, Tryd.ntmps9
  go_wp2_with fail
  go_loopw [5] (FewKRel l w) (fun v _ => l.length - (intOf v).toNat)
  case atStart => exact ⟨0, Nat.zero_le _, by omega, rfl, rfl, Lib.hid (fun j c hj => by omega)⟩
  case round =>
    obtain ⟨k, hk, hk4, rfl, rfl, hno⟩ := hrel
    by_cases hlt : k < l.length
    · have d1 : decide ((k : Int) < (l.length : Int)) = true := decide_eq_true (by omega)
      by_cases h4 : k < 200
      · have d2 : decide ((k : Int) < 200) = true := decide_eq_true (by omega)
        obtain ⟨c, hc⟩ : ∃ c, l[k]? = some c := ⟨_, List.getElem?_eq_getElem hlt⟩
        obtain ⟨g, o, rfl, _, hr⟩ := HH.out.at_ hc
        have n3 : wr.cell? ⟨g, o + k * 4, none⟩ = some (.string c.name) := hr 0 _ rfl
        have HCc := Lib.hid hc
        have z1 := HZ.out c (List.mem_of_getElem? hc)
        clear hr hc
        by_cases hn : 300 < c.name.size
        · have e1 : decide ((300 : Int) < (c.name.size : Int)) = true := decide_eq_true (by omega)
          have HB := Lib.hid (show ¬ (FewK l ∧ (l.length : Int) ≤ n) from fun e => by have := e.1 k c h4 HCc.out; omega)
          go_wp2_with fail
          go_ret
          exact ⟨false, rfl, ⟨(fun e => absurd e (by decide)), fun e => absurd e HB.out⟩, rfl⟩
        · have e1 : decide ((300 : Int) < (c.name.size : Int)) = false := decide_eq_false (by omega)
          have HN := Lib.hid (show ∀ (j : Nat) (c : Ky), j < k + 1 → l[j]? = some c → c.name.size ≤ 300 from fun j c' hj hj' => by
            rcases Nat.lt_or_ge j k with q | q
            · exact hno.out j c' q hj'
            · obtain rfl : j = k := by omega
              rw [HCc.out] at hj'
              obtain rfl := Option.some.inj hj'
              omega)
          go_wp2_with fail
          go_roundw
          case rel => exact ⟨k + 1, by omega, by omega, by simp, rfl, Lib.hid HN.out⟩
          case measure => simp [intOf]; omega
      · have d2 : decide ((k : Int) < 200) = false := decide_eq_false (by omega)
        have HF := Lib.hid (show FewK l from fun j c hj hc => hno.out j c (by omega) hc)
        go_wp2_with fail
        go_ret
        exact ⟨decide ((l.length : Int) ≤ n), rfl, ⟨fun e => ⟨HF.out, of_decide_eq_true e⟩, fun e => decide_eq_true e.2⟩, rfl⟩
    · have d1 : decide ((k : Int) < (l.length : Int)) = false := decide_eq_false (by omega)
      have HF := Lib.hid (show FewK l from fun j c hj hc => hno.out j c (by have := (List.getElem?_eq_some_iff.1 hc).1; omega) hc)
      go_wp2_with fail
      go_ret
      exact ⟨decide ((l.length : Int) ≤ n), rfl, ⟨fun e => ⟨HF.out, of_decide_eq_true e⟩, fun e => decide_eq_true e.2⟩, rfl⟩
end Go.Proofs.YteeddednonmglaaDoor
