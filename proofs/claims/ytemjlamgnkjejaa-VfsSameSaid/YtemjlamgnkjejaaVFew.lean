/-
  What the reference's Do returns: the model's change, its number, its error. Conditions: at most 1000000 nodes and entries, texts of at most 1000000 bytes; the reference's entries are the model's.
  Changes that came in as a slice; what the reference's Few returns. Conditions: at most 1000000000 changes, texts that fit.
-/
import Derived.Test.YtemjlamgnkjejaaVRefDo1
import Derived.Test.YtemjlamgnkjejaaVRefDo2
import Derived.Test.YtemjlamgnkjejaaVRefDo3
import Derived.Test.YtemjlamgnkjejaaVRefDo4
import Derived.Test.YtemjlamgnkjejaaVRefDo5
import Derived.Test.YtemjlamgnkjejaaVRefDo6
import Derived.Test.YtemjlamgnkjejaaVRefDo7
import Derived.Test.YtemjlamgnkjejaaVRefDo8
set_option linter.unusedVariables false
namespace Go.Proofs.Ytemjlamgnkjejaa
open Go.RowKit

theorem rdo_any (M : List Nd) (L : List It) (v : Rv) (c : Chg) (w : World) (H : Rs M L v w) (R : Rel M L) (hI : DevInv M) (hM : M.length ≤ 1000000) (hL : L.length ≤ 1000000) (hn : 0 < M.length) (hs : c.name.size ≤ 1000000) (hts : c.text.size ≤ 1000000) (hc : c.n ≤ 9223372036854775807) :
    Calls Try.prog 15 #[rvV v, chgV c] w (RDoP M L c w) := by
  by_cases hw : wrongM M c = 0
  · rcases wrong_cases hw with ⟨x, hx, hk, hl⟩ | ⟨k2, x, y, hx, hy, _⟩ | ⟨k7, hl, y, hy⟩ | ⟨hk, y, hy⟩
    · obtain ⟨i, hi, hxi⟩ := atM_some hx
      rcases hk with k0 | ⟨k1, hn0⟩ | k3
      · exact rdo_add0 M L v c w H R hM hL hn hs hts hw k0 i x hi hxi
      · exact rdo_add1 M L v c w H R hM hL hn hs hts hw hn0 hc k1 i x hi hxi
      · exact rdo_add3 M L v c w H R hM hL hn hs hts hw k3 i x hi hxi
    · obtain ⟨i, hi, hxi⟩ := atM_some hx
      obtain ⟨j, hj, hyj⟩ := atM_some hy
      exact rdo_share M L v c w H R hM hL hn hs hts hw k2 i x hi hxi j hj (List.getElem?_eq_some_iff.1 hyj).1
    · obtain ⟨j, hj, hyj⟩ := atM_some hy
      exact rdo_cover M L v c w H R hM hL hn hs hts hw k7 j y hj hyj hI
    · obtain ⟨j, hj, hyj⟩ := atM_some hy
      rcases hk with k4 | k5 | ⟨k6, h6⟩ | k8
      · exact rdo_set4 M L v c w H R hM hL hn hs hts hw k4 j y hj hyj (fun e => by omega)
      · exact rdo_set5 M L v c w H R hM hL hn hs hts hw k5 j y hj hyj (fun e => by omega)
      · exact rdo_set6 M L v c w H R hM hL hn hs hts hw k6 j y hj hyj (fun _ => h6)
      · exact rdo_set8 M L v c w H R hM hL hn hs hts hw k8 j y hj hyj (fun e => by omega)
  · exact rdo_refused M L v c w H R hM hL hn hs hts hw
end Go.Proofs.Ytemjlamgnkjejaa

namespace Go.Proofs.Ytemjlamgnkjejaa
open Go.RowKit

def chgL (c : Chg) : List Value := [.int .i64 c.kind, .int .i64 c.at_, .int .i64 c.to, .string c.name, .string c.text, .int .i64 c.a, .int .i64 c.b, .int .i64 c.n]
/-- The slice at a holds these changes. -/
def IsChgs (w : World) (a : Option Addr) (cs : List Chg) : Prop := cs = [] ∨ ∃ g o, a = some ⟨g, o, none⟩ ∧ ∀ (k : Nat) (c : Chg), cs[k]? = some c → w.rangeAt g (o + k * 8) (chgL c)
theorem IsChgs.keep {w w' : World} {a : Option Addr} {cs : List Chg} (h : IsChgs w a cs) (hb : Below w.heap.size w w') : IsChgs w' a cs := by
  rcases h with h | ⟨g, o, h1, h2⟩
  · exact .inl h
  · exact .inr ⟨g, o, h1, fun k c hk j v hj => cell_keep (h2 k c hk j v hj) hb⟩
theorem IsChgs.at_ {w : World} {a : Option Addr} {cs : List Chg} (h : IsChgs w a cs) {k : Nat} {c : Chg} (hk : cs[k]? = some c) : ∃ g o, a = some ⟨g, o, none⟩ ∧ w.rangeAt g (o + k * 8) (chgL c) := by
  rcases h with h | ⟨g, o, h1, h2⟩
  · rw [h] at hk; simp at hk
  · exact ⟨g, o, h1, h2 k c hk⟩
def smallC (c : Chg) : Prop := c.name.size ≤ 300 ∧ c.text.size ≤ 5000
def FewL (cs : List Chg) : Prop := ∀ (k : Nat) (c : Chg), k < 400 → cs[k]? = some c → smallC c
def FewRel (cs : List Chg) (w : World) (v : Value) (wr : World) : Prop := ∃ k : Nat, k ≤ cs.length ∧ k ≤ 400 ∧ v = .int .i64 (k : Int) ∧ wr = w ∧ Hid (∀ (j : Nat) (c : Chg), j < k → cs[j]? = some c → smallC c)

set_option maxRecDepth 100000 in
set_option maxHeartbeats 4000000 in
theorem few_any (cs : List Chg) (a : Option Addr) (cap : Nat) (n : Int) (w : World) (H : IsChgs w a cs) (hl : cs.length ≤ 9223372036854775807) (hz : ∀ c ∈ cs, c.name.size ≤ 9223372036854775807 ∧ c.text.size ≤ 9223372036854775807) :
    Calls Try.prog 11 #[.slice a cs.length cap, .int .i64 n] w fun e w' => ∃ b : Bool, e = .returned (.bool b) ∧ (b = true ↔ FewL cs ∧ (cs.length : Int) ≤ n) ∧ w' = w := by
  have HH := Lib.hid H
  have HZ := Lib.hid hz
  clear H hz
  go_enter Try.func11, Try.ntmps11
  go_wp2_with fail
  go_loopw [5] (FewRel cs w) (fun v _ => cs.length - (intOf v).toNat)
  case atStart => exact ⟨0, Nat.zero_le _, by omega, rfl, rfl, Lib.hid (fun j c hj => by omega)⟩
  case round =>
    obtain ⟨k, hk, hk4, rfl, rfl, hno⟩ := hrel
    by_cases hlt : k < cs.length
    · have d1 : decide ((k : Int) < (cs.length : Int)) = true := decide_eq_true (by omega)
      by_cases h4 : k < 400
      · have d2 : decide ((k : Int) < 400) = true := decide_eq_true (by omega)
        obtain ⟨c, hc⟩ : ∃ c, cs[k]? = some c := ⟨_, List.getElem?_eq_getElem hlt⟩
        obtain ⟨g, o, rfl, hr⟩ := HH.out.at_ hc
        have n3 : wr.cell? ⟨g, o + k * 8 + 3, none⟩ = some (.string c.name) := hr 3 _ rfl
        have n4 : wr.cell? ⟨g, o + k * 8 + 4, none⟩ = some (.string c.text) := hr 4 _ rfl
        have HCc := Lib.hid hc
        obtain ⟨z1, z2⟩ := HZ.out c (List.mem_of_getElem? hc)
        clear hr hc
        by_cases hn : 300 < c.name.size
        · have e1 : decide ((300 : Int) < (c.name.size : Int)) = true := decide_eq_true (by omega)
          have HB := Lib.hid (show ¬ (FewL cs ∧ (cs.length : Int) ≤ n) from fun e => by have := (e.1 k c h4 HCc.out).1; omega)
          go_wp2_with fail
          go_ret
          exact ⟨false, rfl, ⟨(fun e => absurd e (by decide)), fun e => absurd e HB.out⟩, rfl⟩
        · have e1 : decide ((300 : Int) < (c.name.size : Int)) = false := decide_eq_false (by omega)
          by_cases ht : 5000 < c.text.size
          · have e2 : decide ((5000 : Int) < (c.text.size : Int)) = true := decide_eq_true (by omega)
            have HB := Lib.hid (show ¬ (FewL cs ∧ (cs.length : Int) ≤ n) from fun e => by have := (e.1 k c h4 HCc.out).2; omega)
            go_wp2_with fail
            go_ret
            exact ⟨false, rfl, ⟨(fun e => absurd e (by decide)), fun e => absurd e HB.out⟩, rfl⟩
          · have e2 : decide ((5000 : Int) < (c.text.size : Int)) = false := decide_eq_false (by omega)
            have HN := Lib.hid (show ∀ (j : Nat) (c : Chg), j < k + 1 → cs[j]? = some c → smallC c from fun j c' hj hj' => by
              rcases Nat.lt_or_ge j k with q | q
              · exact hno.out j c' q hj'
              · obtain rfl : j = k := by omega
                rw [HCc.out] at hj'
                obtain rfl := Option.some.inj hj'
                exact ⟨by omega, by omega⟩)
            go_wp2_with fail
            go_roundw
            case rel => exact ⟨k + 1, by omega, by omega, by simp, rfl, Lib.hid HN.out⟩
            case measure => simp [intOf]; omega
      · have d2 : decide ((k : Int) < 400) = false := decide_eq_false (by omega)
        have HF := Lib.hid (show FewL cs from fun j c hj hc => hno.out j c (by omega) hc)
        go_wp2_with fail
        go_ret
        exact ⟨decide ((cs.length : Int) ≤ n), rfl, ⟨fun e => ⟨HF.out, of_decide_eq_true e⟩, fun e => decide_eq_true e.2⟩, rfl⟩
    · have d1 : decide ((k : Int) < (cs.length : Int)) = false := decide_eq_false (by omega)
      have HF := Lib.hid (show FewL cs from fun j c hj hc => hno.out j c (by have := (List.getElem?_eq_some_iff.1 hc).1; omega) hc)
      go_wp2_with fail
      go_ret
      exact ⟨decide ((cs.length : Int) ≤ n), rfl, ⟨fun e => ⟨HF.out, of_decide_eq_true e⟩, fun e => decide_eq_true e.2⟩, rfl⟩
end Go.Proofs.Ytemjlamgnkjejaa
