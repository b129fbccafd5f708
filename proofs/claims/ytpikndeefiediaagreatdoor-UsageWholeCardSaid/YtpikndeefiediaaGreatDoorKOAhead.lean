/-
  A slice of keys, as it lies in memory; what the reference's Few returns. Conditions: what came in lies in memory.
  What the reference's ahead returns. Conditions: the keys lie in memory, with names of at most 60000 bytes.
-/
import Derived.Test.YtpikndeefiediaaGreatDoorKOCmp
set_option linter.unusedVariables false
namespace Go.Proofs.YtpikndeefiediaaGreatDoor.O
open Go.Proofs.YtpikndeefiediaaGreatDoor.B
open Go.RowKit

/-- The slice at a holds these keys. -/
def IsKeys (w : World) (a : Option Addr) (l : List Ky) : Prop := l = [] ∨ ∃ g o, a = some ⟨g, o, none⟩ ∧ g < w.heap.size ∧ ∀ (k : Nat) (c : Ky), l[k]? = some c → w.rangeAt g (o + k * 4) (kyL c)
theorem IsKeys.keep {w w' : World} {a : Option Addr} {l : List Ky} (h : IsKeys w a l) (hb : Below w.heap.size w w') : IsKeys w' a l := by
  rcases h with h | ⟨g, o, h1, h0, h2⟩
  · exact .inl h
  · exact .inr ⟨g, o, h1, Nat.lt_of_lt_of_le h0 hb.size, fun k c hk j v hj => (hb.cell (p := ⟨g, _, none⟩) h0).trans (h2 k c hk j v hj)⟩
theorem IsKeys.at_ {w : World} {a : Option Addr} {l : List Ky} (h : IsKeys w a l) {k : Nat} {c : Ky} (hk : l[k]? = some c) : ∃ g o, a = some ⟨g, o, none⟩ ∧ g < w.heap.size ∧ w.rangeAt g (o + k * 4) (kyL c) := by
  rcases h with h | ⟨g, o, h1, h0, h2⟩
  · rw [h] at hk; simp at hk
  · exact ⟨g, o, h1, h0, h2 k c hk⟩
end Go.Proofs.YtpikndeefiediaaGreatDoor.O

namespace Go.Proofs.YtpikndeefiediaaGreatDoor.O
open Go.Proofs.YtpikndeefiediaaGreatDoor.B
open Go.RowKit

theorem getD_at {l : List Ky} {i : Nat} {x : Ky} (h : l[i]? = some x) : l.getD i noKy = x := by rw [List.getD_eq_getElem?_getD, h]; rfl
theorem two_boxes' (w : World) (A B : Array Value) (e : TypeId) : ((w.alloc (.cells A e)).alloc (.cells B e)).heap[w.heap.size]? = some (.cells A e (0, 0)) ∧ ((w.alloc (.cells A e)).alloc (.cells B e)).heap[w.heap.size + 1]? = some (.cells B e (0, 0)) ∧ Below w.heap.size w ((w.alloc (.cells A e)).alloc (.cells B e)) := by
  refine ⟨?_, ?_, ((Below.refl _ _).alloc (Nat.le_refl _) _).alloc (by simp) _⟩
  · have h1 := heap_alloc_new w (.cells A e)
    have h2 : Below (w.heap.size + 1) (w.alloc (.cells A e)) ((w.alloc (.cells A e)).alloc (.cells B e)) := (Below.refl _ _).alloc (by simp) _
    exact (h2.block _ (by omega)).trans h1
  · have h1 := heap_alloc_new (w.alloc (.cells A e)) (.cells B e)
    rwa [show (w.alloc (.cells A e)).heap.size = w.heap.size + 1 from by simp] at h1
end Go.Proofs.YtpikndeefiediaaGreatDoor.O
