/-
  What FS.Node returns.
  Conditions: each fact's own.
-/
import Derived.Test.YtfhagjnlliafiaaGreatDoorKVNames
import Derived.Deep.MidRow
import Derived.Laws.ResultCell
import Derived.Test.YtfhagjnlliafiaaGreatDoorKVRefDev
import Derived.Lib.LazyBuf
import Derived.Test.YtfhagjnlliafiaaGreatDoorKHNames
import Derived.Test.YtfhagjnlliafiaaGreatDoorKPTextAny
set_option linter.unusedVariables false
set_option maxHeartbeats 4000000
set_option maxRecDepth 100000
namespace Go.Proofs.YtfhagjnlliafiaaGreatDoor.V
open Go.RowKit
def knownV (n : Nd) : Value := .agg n.known.toArray
theorem known_at (n : Nd) (ev : Value) {j : Nat} {u : Value} (h : n.known[j]? = some u) : (n.cells ev)[j]? = some u ∧ j < 13 := by
  have hj : j < 13 := (List.getElem?_eq_some_iff.1 h).1
  refine ⟨?_, hj⟩
  rw [← h]
  match j, hj with
  | 0, _ | 1, _ | 2, _ | 3, _ | 4, _ | 5, _ | 6, _ | 7, _ | 8, _ | 9, _ | 10, _ | 11, _ | 12, _ => rfl
theorem known_one (n : Nd) : n.known.toArray.all (·.oneCell') = true := all_oneCell_toArray (fun u hu => by
  simp only [Nd.known, List.mem_cons, List.mem_nil_iff, or_false] at hu
  rcases hu with rfl | rfl | rfl | rfl | rfl | rfl | rfl | rfl | rfl | rfl | rfl | rfl | rfl
  all_goals rfl)
theorem node_get (h : Fsh) (i : Nat) (x : Nd × Value) (w : World) (H : Fs h w) (hx : h.X[i]? = some x) :
    Calls Tryz.prog 46 #[.pointer (some ⟨h.p, 0, none⟩), .int .i64 (i : Int)] w fun e w' => e = .returned (.tuple #[knownV x.1, .int .i64 0]) ∧ Below w.heap.size w w' := by
  have hil : i < h.X.length := (List.getElem?_eq_some_iff.1 hx).1
  obtain ⟨g, cap, hv, _, _⟩ := H.slice (by omega)
  have hp : h.p < w.heap.size := H.lt (.inl rfl)
  have HK := Lib.hid (show ∀ W, Below w.heap.size w W → Fs h W from fun W hb => H.keep hb)
  have HBa := Lib.hid (show ∀ o, Below w.heap.size w (w.alloc o) from fun o => (Below.refl _ _).alloc (Nat.le_refl _) _)
  have HR := Lib.hid (show ∀ W, Below w.heap.size w W → W.rangeAt g (i * 17) x.1.known from fun W hb j v hj => (H.keep hb).at_node hv hx (show j < 17 from by have := (known_at x.1 x.2 hj).2; omega) (known_at x.1 x.2 hj).1)
  have c0 : w.cell? ⟨h.p, 0, none⟩ = some (.slice (some ⟨g, 0, none⟩) h.X.length cap) := by rw [← hv]; exact H.cell0
  have hhas : hasB h (i : Int) = true := by simp [hasB, hil]
  clear hv H
  go_enter Tryz.func46, Tryz.ntmps46
  go_wp2_with (first
    | (go_at_call 75; refine (has_any h (i : Int) _ (HK.out _ (HBa.out _)) (by omega)).mono ?_; rintro e w2 ⟨rfl, hw⟩; subst hw; rw [hhas])
    | (refine wpList_load_mid rfl 63 (.tmp 17) rfl g (i * 17) rfl x.1.known _ (HR.out _ (HBa.out _)) Tryz.underlying63 rfl sizeKnown ?_)
    | (refine wpList_store_row rfl 63 (.tmp 4) (.tmp 18) rfl w.heap.size x.1.known.toArray rfl rfl _ _ (heap_alloc_new _ _) (by rw [sizeKnown]; rfl) rfl (known_one x.1) ?_; rw [World.setRow_alloc_new]))
  refine bodyPost_ret (v := .tuple #[knownV x.1, .int .i64 0]) ?_ rfl ⟨rfl, HBa.out _⟩
  rw [results_cell_tmp Tryz.results46]
  have hl := run_loadVar_row (P := Tryz.prog) (w.alloc (.cells x.1.known.toArray 63)) w.heap.size 63 63 x.1.known.toArray (0, 0) _ (heap_alloc_new _ _) Tryz.underlying63 rfl (by rw [sizeKnown]; rfl)
  simp [asAddr, hl, Result.andThen, knownV]
end Go.Proofs.YtfhagjnlliafiaaGreatDoor.V
namespace Go.Proofs.YtfhagjnlliafiaaGreatDoor.V
open Go.RowKit
def linkE (M : List Nd) (i : Int) : Int := match atM M i with
  | none => 2
  | some n => if n.kind = 3 then (if n.dead then 8 else 0) else 1
def linkT (M : List Nd) (i : Int) : ByteArray := match atM M i with
  | none => ⟨#[]⟩
  | some n => if n.kind = 3 then (if n.dead then ⟨#[]⟩ else n.target) else ⟨#[]⟩
def overI (M : List Nd) (i : Int) : Int := match atM M i with
  | none => i
  | some n => n.over
theorem atM_none {h : Fsh} {i : Int} (hi : atM h.M i = none) : hasB h i = false := by
  unfold atM at hi
  unfold hasB
  rw [decide_eq_false_iff_not]
  intro q
  have hml : h.M.length = h.X.length := List.length_map ..
  rw [if_pos (by omega)] at hi
  have := List.getElem?_eq_none_iff.1 hi
  omega
theorem atM_at {h : Fsh} {i : Int} {n : Nd} (hi : atM h.M i = some n) : ∃ (k : Nat) (x : Nd × Value), i = (k : Int) ∧ h.X[k]? = some x ∧ x.1 = n := by
  obtain ⟨k, hk, hn⟩ := atM_some hi
  obtain ⟨x, hx, hxn⟩ := fs_at hn
  exact ⟨k, x, hk, hx, hxn⟩
theorem link_no (h : Fsh) (i : Int) (w : World) (H : Fs h w) (hn : 0 < h.X.length) (hi : hasB h i = false) :
    Calls Tryz.prog 115 #[.pointer (some ⟨h.p, 0, none⟩), .int .i64 i] w fun e w' => e = .returned (.tuple #[.string ⟨#[]⟩, .int .i64 2]) ∧ w = w' := by
  have hh := has_any h i w H hn
  rw [hi] at hh
  have HH := Lib.hid hh
  clear hh H hi
  go_enter Tryz.func115, Tryz.ntmps115
  go_wp2_with (refine HH.out.mono ?_; rintro e w2 ⟨rfl, hw⟩; subst hw)
  go_ret2
  exact ⟨rfl, rfl⟩
def zeroCells : Array Value := #[.int .i64 0, .int .i64 0, .int .i64 0, .int .i64 0, .int .i64 0, .int .i64 0, .int .i64 0, .int .i64 0, .int .i64 0, .int .i64 0, .int .i64 0, .int .i64 0, .string ⟨#[]⟩]
def zeroNode : Value := .agg zeroCells
theorem node_no (h : Fsh) (i : Int) (w : World) (H : Fs h w) (hn : 0 < h.X.length) (hi : hasB h i = false) :
    Calls Tryz.prog 46 #[.pointer (some ⟨h.p, 0, none⟩), .int .i64 i] w fun e w' => e = .returned (.tuple #[zeroNode, .int .i64 2]) ∧ Below w.heap.size w w' := by
  have HH := Lib.hid (fun W (hb : Below w.heap.size w W) => has_any h i W (H.keep hb) hn)
  rw [hi] at HH
  have HBa := Lib.hid (show ∀ o, Below w.heap.size w (w.alloc o) from fun o => (Below.refl _ _).alloc (Nat.le_refl _) _)
  clear H hi
  go_enter Tryz.func46, Tryz.ntmps46
  go_wp2_with (go_at_call 75; refine (HH.out _ (HBa.out _)).mono ?_; rintro e w2 ⟨rfl, hw⟩; subst hw)
  refine bodyPost_ret (v := .tuple #[zeroNode, .int .i64 2]) ?_ rfl ⟨rfl, HBa.out _⟩
  rw [results_cell_tmp Tryz.results46]
  have hl := run_loadVar_row (P := Tryz.prog) (w.alloc (.cells zeroCells 63)) w.heap.size 63 63 zeroCells (0, 0) _ (heap_alloc_new _ _) Tryz.underlying63 rfl (by rw [sizeKnown]; rfl)
  unfold zeroCells at hl
  simp [asAddr, hl, Result.andThen, zeroNode, zeroCells]
theorem link_at (h : Fsh) (i : Nat) (x : Nd × Value) (w : World) (H : Fs h w) (hx : h.X[i]? = some x) :
    Calls Tryz.prog 115 #[.pointer (some ⟨h.p, 0, none⟩), .int .i64 (i : Int)] w fun e w' => e = .returned (.tuple #[.string (if x.1.kind = 3 then (if x.1.dead then ⟨#[]⟩ else x.1.target) else ⟨#[]⟩), .int .i64 (if x.1.kind = 3 then (if x.1.dead then 8 else 0) else 1)]) ∧ w = w' := by
  have hil : i < h.X.length := (List.getElem?_eq_some_iff.1 hx).1
  obtain ⟨g, cap, hv, _, _⟩ := H.slice (by omega)
  have c0 : w.cell? ⟨h.p, 0, none⟩ = some (.slice (some ⟨g, 0, none⟩) h.X.length cap) := by rw [← hv]; exact H.cell0
  have c1 := H.at_node hv hx (k := 13) (by omega) rfl
  have c2 := H.at_node hv hx (k := 2) (by omega) rfl
  have c3 := H.at_node hv hx (k := 12) (by omega) rfl
  have hhas : hasB h (i : Int) = true := by simp [hasB, hil]
  have hh := has_any h (i : Int) w H (by omega)
  rw [hhas] at hh
  have HH := Lib.hid hh
  clear hh hv H hhas
  by_cases hk : x.1.kind = 3
  · have k2 : (x.1.kind != 3) = false := by rw [hk]; rfl
    simp only [if_pos hk]
    rw [hk] at c2
    clear hk k2
    cases hd : x.1.dead with
    | true =>
      rw [hd] at c1
      clear hd
      go_enter Tryz.func115, Tryz.ntmps115
      go_wp2_with (go_at_call 75; refine HH.out.mono ?_; rintro e w2 ⟨rfl, hw⟩; subst hw)
      go_ret2
      exact ⟨rfl, rfl⟩
    | false =>
      rw [hd] at c1
      clear hd
      go_enter Tryz.func115, Tryz.ntmps115
      go_wp2_with (go_at_call 75; refine HH.out.mono ?_; rintro e w2 ⟨rfl, hw⟩; subst hw)
      go_ret2
      exact ⟨rfl, rfl⟩
  · have k2 : (x.1.kind != 3) = true := by simpa using hk
    simp only [if_neg hk]
    clear hk
    go_enter Tryz.func115, Tryz.ntmps115
    go_wp2_with (go_at_call 75; refine HH.out.mono ?_; rintro e w2 ⟨rfl, hw⟩; subst hw)
    go_ret2
    exact ⟨rfl, rfl⟩
section
variable {w0 w : World} {p : Nat} {M : List Nd}
theorem has_link (i : Int) (h : Has w0 p M w) (hn : 0 < M.length) :
    Calls Tryz.prog 115 #[.pointer (some ⟨p, 0, none⟩), .int .i64 i] w fun e w' => e = .returned (.tuple #[.string (linkT M i), .int .i64 (linkE M i)]) ∧ w = w' := by
  obtain ⟨h, rfl, rfl, H, hb, hf⟩ := h
  have hml : h.M.length = h.X.length := List.length_map ..
  unfold linkE linkT
  cases ha : atM h.M i with
  | none => exact link_no h i w H (by omega) (atM_none ha)
  | some n =>
    obtain ⟨k, x, rfl, hx, rfl⟩ := atM_at ha
    exact link_at h k x w H hx
theorem has_over (i : Int) (h : Has w0 p M w) (hn : 0 < M.length) :
    Calls Tryz.prog 45 #[.pointer (some ⟨p, 0, none⟩), .int .i64 i] w fun e w' => e = .returned (.int .i64 (overI M i)) ∧ w = w' := by
  obtain ⟨h, rfl, rfl, H, hb, hf⟩ := h
  have hml : h.M.length = h.X.length := List.length_map ..
  unfold overI
  cases ha : atM h.M i with
  | none => exact over_no h i w H (by omega) (atM_none ha)
  | some n =>
    obtain ⟨k, x, rfl, hx, rfl⟩ := atM_at ha
    exact over_any h k x w H hx
def nodeV' (M : List Nd) (i : Int) : Value := match atM M i with
  | none => zeroNode
  | some n => knownV n
def nodeEr (M : List Nd) (i : Int) : Int := match atM M i with
  | none => 2
  | some _ => 0
theorem has_nodeI (i : Int) (h : Has w0 p M w) (hn : 0 < M.length) :
    Calls Tryz.prog 46 #[.pointer (some ⟨p, 0, none⟩), .int .i64 i] w fun e w' => e = .returned (.tuple #[nodeV' M i, .int .i64 (nodeEr M i)]) ∧ Below w.heap.size w w' := by
  obtain ⟨h, rfl, rfl, H, hb, hf⟩ := h
  have hml : h.M.length = h.X.length := List.length_map ..
  unfold nodeV' nodeEr
  cases ha : atM h.M i with
  | none => exact node_no h i w H (by omega) (atM_none ha)
  | some n =>
    obtain ⟨k, x, rfl, hx, rfl⟩ := atM_at ha
    exact node_get h k x w H hx
end
end Go.Proofs.YtfhagjnlliafiaaGreatDoor.V
namespace Go.Proofs.YtfhagjnlliafiaaGreatDoor.V
open Go.Proofs.YtfhagjnlliafiaaGreatDoor.P
open Go.RowKit
def nvOf (n : Nd) : Nv := ⟨n.dev, n.ino, n.kind, n.mode, n.uid, n.gid, n.size, n.blocks, n.links, n.t0, n.t1, n.t2, n.target⟩
def zeroNv : Nv := ⟨0, 0, 0, 0, 0, 0, 0, 0, 0, 0, 0, 0, ⟨#[]⟩⟩
def nvAt (M : List Nd) (i : Int) : Nv := match atM M i with
  | none => zeroNv
  | some n => nvOf n
theorem nodeV_nv (M : List Nd) (i : Int) : nodeV' M i = nodeV (nvAt M i) := by
  unfold nodeV' nvAt
  cases atM M i <;> rfl
structure Pl where
  id : Int
  dir : Int
  name : ByteArray
end Go.Proofs.YtfhagjnlliafiaaGreatDoor.V
