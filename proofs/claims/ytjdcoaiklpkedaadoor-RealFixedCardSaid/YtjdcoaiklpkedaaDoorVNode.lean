/-
  What FS.Node returns. Conditions: the file system lies in memory.
-/
import Derived.Test.YtjdcoaiklpkedaaDoorVDo
import Derived.Deep.MidRow
import Derived.Laws.ResultCell
namespace Go.Proofs.YtjdcoaiklpkedaaDoor
open Go.RowKit

def knownV (n : Nd) : Value := .agg n.known.toArray
theorem known_at (n : Nd) (ev : Value) {j : Nat} {u : Value} (h : n.known[j]? = some u) : (n.cells ev)[j]? = some u ∧ j < 13 := by
  have hj : j < 13 := (List.getElem?_eq_some_iff.1 h).1
  refine ⟨?_, hj⟩
  rw [← h]
  match j, hj with
  | 0, _ | 1, _ | 2, _ | 3, _ | 4, _ | 5, _ | 6, _ | 7, _ | 8, _ | 9, _ | 10, _ | 11, _ | 12, _ => rfl
theorem known_one (n : Nd) : n.known.toArray.all (·.oneCell') = true := all_oneCell_toArray (fun u hu => by
  simp only [Nd.known, List.mem_cons, List.mem_nil_iff, or_false] at hu
  rcases hu with rfl | rfl | rfl | rfl | rfl | rfl | rfl | rfl | rfl | rfl | rfl | rfl | rfl
  all_goals rfl)

set_option maxRecDepth 100000 in
set_option maxHeartbeats 4000000 in
theorem node_get (h : Fsh) (i : Nat) (x : Nd × Value) (w : World) (H : Fs h w) (hx : h.X[i]? = some x) :
    Calls Tryd.prog 25 #[.pointer (some ⟨h.p, 0, none⟩), .int .i64 (i : Int)] w fun e w' => e = .returned (.tuple #[knownV x.1, .int .i64 0]) ∧ Below w.heap.size w w' := by
  have hil : i < h.X.length := (List.getElem?_eq_some_iff.1 hx).1
  obtain ⟨g, cap, hv, _, _⟩ := H.slice (by omega)
  have hp : h.p < w.heap.size := H.lt (.inl rfl)
  have HK := Lib.hid (show ∀ W, Below w.heap.size w W → Fs h W from fun W hb => H.keep hb)
  have HBa := Lib.hid (show ∀ o, Below w.heap.size w (w.alloc o) from fun o => (Below.refl _ _).alloc (Nat.le_refl _) _)
  have HR := Lib.hid (show ∀ W, Below w.heap.size w W → W.rangeAt g (i * 17) x.1.known from fun W hb j v hj => (H.keep hb).at_node hv hx (show j < 17 from by have := (known_at x.1 x.2 hj).2; omega) (known_at x.1 x.2 hj).1)
  have c0 : w.cell? ⟨h.p, 0, none⟩ = some (.slice (some ⟨g, 0, none⟩) h.X.length cap) := by rw [← hv]; exact H.cell0
  have hhas : hasB h (i : Int) = true := by simp [hasB, hil]
  clear hv H
  go_enter Tryd.func25, Tryd.ntmps25
  go_wp2_with (first
    | (go_at_call 47; refine (has_any h (i : Int) _ (HK.out _ (HBa.out _)) (by omega)).mono ?_; rintro e w2 ⟨rfl, hw⟩; subst hw; rw [hhas])
    | (refine wpList_load_mid rfl 74 (.tmp 17) rfl g (i * 17) rfl x.1.known _ (HR.out _ (HBa.out _)) Tryd.underlying74 rfl sizeKnown ?_)
    | (refine wpList_store_row rfl 74 (.tmp 4) (.tmp 18) rfl w.heap.size x.1.known.toArray rfl rfl _ _ (heap_alloc_new _ _) (by rw [sizeKnown]; rfl) rfl (known_one x.1) ?_; rw [World.setRow_alloc_new]))
  refine bodyPost_ret (v := .tuple #[knownV x.1, .int .i64 0]) ?_ rfl ⟨rfl, HBa.out _⟩
  rw [results_cell_tmp Tryd.results25]
  have hl := run_loadVar_row (P := Tryd.prog) (w.alloc (.cells x.1.known.toArray 74)) w.heap.size 74 74 x.1.known.toArray (0, 0) _ (heap_alloc_new _ _) Tryd.underlying74 rfl (by rw [sizeKnown]; rfl)
  simp [asAddr, hl, Result.andThen, knownV]
end Go.Proofs.YtjdcoaiklpkedaaDoor
