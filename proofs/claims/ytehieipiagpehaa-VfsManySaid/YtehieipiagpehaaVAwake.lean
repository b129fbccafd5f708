/-
  What New makes; that the laws' own first question is answered. Conditions: none.
-/
import Derived.Test.YtehieipiagpehaaVDo
namespace Go.Proofs.Ytehieipiagpehaa
open Go.RowKit

def newM : List Nd := [addedNd (dirNd 493 0) 1 []]
/-- A file system that was made behind w0, of the nodes M. -/
def Has (w0 : World) (p : Nat) (M : List Nd) (w : World) : Prop := ∃ h : Fsh, h.p = p ∧ h.M = M ∧ Fs h w ∧ Below w0.heap.size w0 w ∧ ∀ k, h.foot k → w0.heap.size ≤ k

theorem fs_new (w : World) : Fs ⟨w.heap.size, .slice none 0 0, []⟩ (w.alloc (.cells #[.slice none 0 0] 68)) :=
  ⟨heap_alloc_new _ _, World.ownsRow_nil _ _ _ _, fun x hx => (by cases hx), fun i j _ x y hx _ => (by simp at hx)⟩

set_option maxHeartbeats 1000000 in
theorem new_any (w : World) :
    Calls Try.prog 10 #[] w fun e w' => ∃ p, e = .returned (.pointer (some ⟨p, 0, none⟩)) ∧ Has w p newM w' := by
  have HA := Lib.hid (fun (w2 : World) (hb : Below (w.alloc (.cells #[.slice none 0 0] 68)).heap.size (w.alloc (.cells #[.slice none 0 0] 68)) w2) => add_any ⟨w.heap.size, .slice none 0 0, []⟩ (dirNd 493 0) 1 w2 ((fs_new w).keep hb) rfl (by simp))
  go_enter Try.func10, Try.ntmps10
  go_wp2_with (first
    | (go_at_call 25; refine (directory_any 493 0 _).mono ?_; rintro e w2 ⟨rfl, hb2⟩; have HB2 := Lib.hid hb2; clear hb2)
    | (go_at_call 24; refine (HA.out _ HB2.out).mono ?_; rintro e w3 ⟨rfl, v', H3, G3⟩; have R := Lib.hid (show Has w w.heap.size newM w3 from ⟨_, rfl, rfl, H3, (below_two ((Below.refl _ _).alloc (Nat.le_refl _) _) HB2.out).trans (G3.below (Nat.le_trans (by simp : w.heap.size ≤ (w.alloc (.cells #[.slice none 0 0] 68)).heap.size) HB2.out.size) (fun k hk => by rcases hk with q | q | ⟨x, hx, _⟩; exact Nat.le_of_eq q.symm; cases q; cases hx)), fun k hk => by rcases G3.new k hk with q | q; (rcases q with q | q | ⟨x, hx, _⟩; exact Nat.le_of_eq q.symm; cases q; cases hx); exact Nat.le_trans (Nat.le_trans (by simp : w.heap.size ≤ (w.alloc (.cells #[.slice none 0 0] 68)).heap.size) HB2.out.size) q⟩); clear H3 G3))
  go_ret
  exact ⟨_, rfl, R.out⟩

/-- One change of a file system made behind w0. -/
theorem has_do {w0 w : World} {p : Nat} {M : List Nd} {c : Chg} {k : Nat} (h : Has w0 p M w) (hS : Small M k) (hk : k ≤ 900000) (hn : 0 < M.length) (hc : -9223372036854775808 ≤ c.n ∧ c.n ≤ 9223372036854775807) :
    Calls Try.prog 12 #[.pointer (some ⟨p, 0, none⟩), chgV c] w fun e w' => e = .returned (.tuple #[.int .i64 (doR M c), .int .i64 (wrongM M c)]) ∧ Has w0 p (doM M c) w' := by
  obtain ⟨h, rfl, rfl, H, hb, hf⟩ := h
  have hml : h.M.length = h.X.length := List.length_map ..
  refine (do_any h c k w H hS hk (by omega) hc).mono ?_
  rintro e w' ⟨he, h', hp', hm', H', G'⟩
  exact ⟨he, h', hp', hm', H', hb.trans (G'.below hb.size hf), fun j hj => by rcases G'.new j hj with q | q; exact hf j q; exact Nat.le_trans hb.size q⟩
theorem Has.keep {w0 w w' : World} {p : Nat} {M : List Nd} (h : Has w0 p M w) (hb : Below w.heap.size w w') : Has w0 p M w' := by
  obtain ⟨h, h1, h2, H, hb0, hf⟩ := h
  exact ⟨h, h1, h2, H.keep hb, hb0.trans (hb.mono hb0.size), hf⟩
theorem Has.below {w0 w : World} {p : Nat} {M : List Nd} (h : Has w0 p M w) : Below w0.heap.size w0 w := by
  obtain ⟨h, h1, h2, H, hb0, hf⟩ := h
  exact hb0
theorem has_count {w0 w : World} {p : Nat} {M : List Nd} (h : Has w0 p M w) (hn : 0 < M.length) :
    Calls Try.prog 18 #[.pointer (some ⟨p, 0, none⟩)] w fun e w' => e = .returned (.int .i64 (M.length : Int)) ∧ w = w' := by
  obtain ⟨h, rfl, rfl, H, hb, hf⟩ := h
  have hml : h.M.length = h.X.length := List.length_map ..
  rw [hml]
  exact count_any h w H (by omega)

def chgA : Chg := ⟨0, 0, 0, ⟨#[97]⟩, ⟨#[]⟩, 0, 0, 0⟩
theorem new_small : Small newM 0 := by
  refine ⟨by decide, fun n hn => ?_⟩
  obtain rfl : n = addedNd (dirNd 493 0) 1 [] := by simpa [newM] using hn
  exact ⟨by decide, by decide, by decide⟩
theorem awake_do : doR newM chgA = 1 ∧ wrongM newM chgA = 0 ∧ (doM newM chgA).length = 2 := by decide +kernel

set_option maxHeartbeats 1000000 in
theorem awake_any (w : World) :
    Calls Try.prog 8 #[] w fun e w' => e = .returned (.bool true) ∧ Below w.heap.size w w' := by
  obtain ⟨a1, a2, a3⟩ := awake_do
  have A1 := Lib.hid a1
  have A2 := Lib.hid a2
  have A3 := Lib.hid a3
  clear a1 a2 a3
  go_enter Try.func8, Try.ntmps8
  go_wp2_with (first
    | (go_at_call 10; refine (new_any _).mono ?_; rintro e w2 ⟨p, rfl, H2⟩; have HH2 := Lib.hid H2; clear H2)
    | (go_at_call 12; refine (has_do (c := chgA) HH2.out new_small (by omega) (by decide) ⟨by decide, by decide⟩).mono ?_; rintro e w3 ⟨rfl, H3⟩; rw [A1.out, A2.out]; have HH3 := Lib.hid H3; clear H3)
    | (go_at_call 18; refine (has_count HH3.out (by rw [A3.out]; decide)).mono ?_; rintro e w4 ⟨rfl, hw⟩; rw [A3.out]; subst hw))
  go_ret
  exact ⟨rfl, HH3.out.below⟩
end Go.Proofs.Ytehieipiagpehaa
