/-
  What FS.Node returns. Conditions: the file system lies in memory.
  What FS.List, Link, Node, Over, Up return, of whatever number: of the model's nodes. Conditions: the file system lies in memory; at most 1000000 entries a directory.
  What slices.Equal of two rows of entries, alike, slices.EqualFunc and FS.Same return. Conditions: the file systems lie in memory; at most 1000000 nodes, and entries a directory.
-/
import Derived.Test.YtigkdehaepenhaaGreatDoorVDo
import Derived.Deep.MidRow
import Derived.Laws.ResultCell
import Derived.Test.YtigkdehaepenhaaGreatDoorVRefApp
import Derived.Lib.LazyBuf
set_option linter.unusedSimpArgs false
set_option linter.unusedVariables false
namespace Go.Proofs.YtigkdehaepenhaaGreatDoor.V
open Go.RowKit

def knownV (n : Nd) : Value := .agg n.known.toArray
theorem known_at (n : Nd) (ev : Value) {j : Nat} {u : Value} (h : n.known[j]? = some u) : (n.cells ev)[j]? = some u ∧ j < 13 := by
  have hj : j < 13 := (List.getElem?_eq_some_iff.1 h).1
  refine ⟨?_, hj⟩
  rw [← h]
  match j, hj with
  | 0, _ | 1, _ | 2, _ | 3, _ | 4, _ | 5, _ | 6, _ | 7, _ | 8, _ | 9, _ | 10, _ | 11, _ | 12, _ => rfl
theorem known_one (n : Nd) : n.known.toArray.all (·.oneCell') = true := all_oneCell_toArray (fun u hu => by
  simp only [Nd.known, List.mem_cons, List.mem_nil_iff, or_false] at hu
  rcases hu with rfl | rfl | rfl | rfl | rfl | rfl | rfl | rfl | rfl | rfl | rfl | rfl | rfl
  all_goals rfl)

set_option maxRecDepth 100000 in
set_option maxHeartbeats 4000000 in
theorem node_get (h : Fsh) (i : Nat) (x : Nd × Value) (w : World) (H : Fs h w) (hx : h.X[i]? = some x) :
    Calls Tryz.prog 21 #[.pointer (some ⟨h.p, 0, none⟩), .int .i64 (i : Int)] w fun e w' => e = .returned (.tuple #[knownV x.1, .int .i64 0]) ∧ Below w.heap.size w w' := by
  have hil : i < h.X.length := (List.getElem?_eq_some_iff.1 hx).1
  obtain ⟨g, cap, hv, _, _⟩ := H.slice (by omega)
  have hp : h.p < w.heap.size := H.lt (.inl rfl)
  have HK := Lib.hid (show ∀ W, Below w.heap.size w W → Fs h W from fun W hb => H.keep hb)
  have HBa := Lib.hid (show ∀ o, Below w.heap.size w (w.alloc o) from fun o => (Below.refl _ _).alloc (Nat.le_refl _) _)
  have HR := Lib.hid (show ∀ W, Below w.heap.size w W → W.rangeAt g (i * 17) x.1.known from fun W hb j v hj => (H.keep hb).at_node hv hx (show j < 17 from by have := (known_at x.1 x.2 hj).2; omega) (known_at x.1 x.2 hj).1)
  have c0 : w.cell? ⟨h.p, 0, none⟩ = some (.slice (some ⟨g, 0, none⟩) h.X.length cap) := by rw [← hv]; exact H.cell0
  have hhas : hasB h (i : Int) = true := by simp [hasB, hil]
  clear hv H
  go_enter Tryz.func21, Tryz.ntmps21
  go_wp2_with (first
    | (go_at_call 44; refine (has_any h (i : Int) _ (HK.out _ (HBa.out _)) (by omega)).mono ?_; rintro e w2 ⟨rfl, hw⟩; subst hw; rw [hhas])
    | (refine wpList_load_mid rfl 62 (.tmp 17) rfl g (i * 17) rfl x.1.known _ (HR.out _ (HBa.out _)) Tryz.underlying62 rfl sizeKnown ?_)
    | (refine wpList_store_row rfl 62 (.tmp 4) (.tmp 18) rfl w.heap.size x.1.known.toArray rfl rfl _ _ (heap_alloc_new _ _) (by rw [sizeKnown]; rfl) rfl (known_one x.1) ?_; rw [World.setRow_alloc_new]))
  refine bodyPost_ret (v := .tuple #[knownV x.1, .int .i64 0]) ?_ rfl ⟨rfl, HBa.out _⟩
  rw [results_cell_tmp Tryz.results21]
  have hl := run_loadVar_row (P := Tryz.prog) (w.alloc (.cells x.1.known.toArray 62)) w.heap.size 62 62 x.1.known.toArray (0, 0) _ (heap_alloc_new _ _) Tryz.underlying62 rfl (by rw [sizeKnown]; rfl)
  simp [asAddr, hl, Result.andThen, knownV]
end Go.Proofs.YtigkdehaepenhaaGreatDoor.V

namespace Go.Proofs.YtigkdehaepenhaaGreatDoor.V
open Go.RowKit

def listE (M : List Nd) (i : Int) : Int := match atM M i with
  | none => 2
  | some n => if n.kind = 2 then (if n.dead then 8 else 0) else 3
def listL (M : List Nd) (i : Int) : List (ByteArray × Int) := match atM M i with
  | none => []
  | some n => if n.kind = 2 then (if n.dead then [] else n.ents) else []
def linkE (M : List Nd) (i : Int) : Int := match atM M i with
  | none => 2
  | some n => if n.kind = 3 then (if n.dead then 8 else 0) else 1
def linkT (M : List Nd) (i : Int) : ByteArray := match atM M i with
  | none => ⟨#[]⟩
  | some n => if n.kind = 3 then (if n.dead then ⟨#[]⟩ else n.target) else ⟨#[]⟩
def overI (M : List Nd) (i : Int) : Int := match atM M i with
  | none => i
  | some n => n.over
def upI (M : List Nd) (i : Int) : Int := match atM M i with
  | none => -1
  | some n => n.up

theorem atM_none {h : Fsh} {i : Int} (hi : atM h.M i = none) : hasB h i = false := by
  unfold atM at hi
  unfold hasB
  rw [decide_eq_false_iff_not]
  intro q
  have hml : h.M.length = h.X.length := List.length_map ..
  rw [if_pos (by omega)] at hi
  have := List.getElem?_eq_none_iff.1 hi
  omega
theorem atM_at {h : Fsh} {i : Int} {n : Nd} (hi : atM h.M i = some n) : ∃ (k : Nat) (x : Nd × Value), i = (k : Int) ∧ h.X[k]? = some x ∧ x.1 = n := by
  obtain ⟨k, hk, hn⟩ := atM_some hi
  obtain ⟨x, hx, hxn⟩ := fs_at hn
  exact ⟨k, x, hk, hx, hxn⟩

theorem infoEnt : (Tryz.prog.info? 100).map (fun i => (i.zero, i.size, i.bytes)) = some (some (.agg #[.string ⟨#[]⟩, .int .i64 0]), 2, 24) := by kernel_rfl
theorem ents_one : ∀ l : List (ByteArray × Int), ∀ u ∈ entCells l, u.oneCell' = true
  | [], u, hu => by cases hu
  | x :: r, u, hu => by
    rw [entCells] at hu
    rcases List.mem_cons.1 hu with rfl | hu
    · rfl
    · rcases List.mem_cons.1 hu with rfl | hu
      · rfl
      · exact ents_one r u hu

set_option maxRecDepth 100000 in
set_option maxHeartbeats 4000000 in
/-- slices.Clone of a row of entries: a new row of the same. -/
theorem clone_any (v : Value) (l : List (ByteArray × Int)) (w : World) (H : w.ownsRow 0 100 2 v l.length (entCells l)) (hl : l.length ≤ 1000000) :
    Calls Tryz.prog 133 #[v] w fun e w' => ∃ u, e = .returned u ∧ w'.ownsRow w.heap.size 100 2 u l.length (entCells l) ∧ Below w.heap.size w w' := by
  have hnil := fun W a n c => _root_.Go.run_eql_slice_nil (P := Tryz.prog) W 90 100 a n c Tryz.underlying90
  rcases H.2 with ⟨rfl, h0⟩ | ⟨g, cap, cur, rfl, _⟩
  · obtain rfl : l = [] := List.eq_nil_of_length_eq_zero h0
    go_enter Tryz.func133, Tryz.ntmps133
    go_wp2
    go_ret
    exact ⟨_, rfl, World.ownsRow_nil _ _ _ _, Below.refl _ _⟩
  · obtain ⟨i0, hi, hz0, hz1, hz2⟩ := info_parts infoEnt
    have HMX := Lib.hid (show 0 + l.length ≤ maxLen from by unfold maxLen; omega)
    have HS := Lib.hid (show ∀ o, (w.alloc o).ownsRow 0 100 2 (.slice (some ⟨g, 0, none⟩) l.length cap) l.length (entCells l) from fun o => H.alloc o)
    clear H
    go_enter Tryz.func133, Tryz.ntmps133
    go_wp2_with (at_builtin; refine wpList_append_row rfl (.tmp 5) (.tmp 6) 90 rfl w.heap.size 100 i0 _ 2 24 Tryz.underlying90 hi hz0 hz1 hz2 rfl (by decide) (.slice (some ⟨w.heap.size, 0, none⟩) 0 0) 0 [] rfl (owns_made (Nat.le_refl _)) (.slice (some ⟨g, 0, none⟩) l.length cap) l.length (entCells l) rfl (HS.out _) (ents_one l) HMX.out (by omega) (by simp) ?_; intro v1 w1 hown1 hg1; rw [Nat.zero_add, List.nil_append] at hown1; have HO := Lib.hid hown1; have HG := Lib.hid hg1; clear hown1 hg1)
    go_ret
    exact ⟨_, rfl, HO.out, ((Below.refl _ _).alloc (Nat.le_refl _) _).grown HG.out (by simp) (fun j hj => by cases hj; exact Nat.le_refl _)⟩

/-- What an asker sees of the node number i: the facts on its cells. -/
theorem list_no (h : Fsh) (i : Int) (w : World) (H : Fs h w) (hn : 0 < h.X.length) (hi : hasB h i = false) :
    Calls Tryz.prog 119 #[.pointer (some ⟨h.p, 0, none⟩), .int .i64 i] w fun e w' => e = .returned (.tuple #[.slice none 0 0, .int .i64 2]) ∧ w = w' := by
  have hh := has_any h i w H hn
  rw [hi] at hh
  have HH := Lib.hid hh
  clear hh H hi
  go_enter Tryz.func119, Tryz.ntmps119
  go_wp2_with (refine HH.out.mono ?_; rintro e w2 ⟨rfl, hw⟩; subst hw)
  go_ret2
  exact ⟨rfl, rfl⟩
theorem link_no (h : Fsh) (i : Int) (w : World) (H : Fs h w) (hn : 0 < h.X.length) (hi : hasB h i = false) :
    Calls Tryz.prog 22 #[.pointer (some ⟨h.p, 0, none⟩), .int .i64 i] w fun e w' => e = .returned (.tuple #[.string ⟨#[]⟩, .int .i64 2]) ∧ w = w' := by
  have hh := has_any h i w H hn
  rw [hi] at hh
  have HH := Lib.hid hh
  clear hh H hi
  go_enter Tryz.func22, Tryz.ntmps22
  go_wp2_with (refine HH.out.mono ?_; rintro e w2 ⟨rfl, hw⟩; subst hw)
  go_ret2
  exact ⟨rfl, rfl⟩
def zeroCells : Array Value := #[.int .i64 0, .int .i64 0, .int .i64 0, .int .i64 0, .int .i64 0, .int .i64 0, .int .i64 0, .int .i64 0, .int .i64 0, .int .i64 0, .int .i64 0, .int .i64 0, .string ⟨#[]⟩]
def zeroNode : Value := .agg zeroCells
set_option maxRecDepth 100000 in
set_option maxHeartbeats 4000000 in
theorem node_no (h : Fsh) (i : Int) (w : World) (H : Fs h w) (hn : 0 < h.X.length) (hi : hasB h i = false) :
    Calls Tryz.prog 21 #[.pointer (some ⟨h.p, 0, none⟩), .int .i64 i] w fun e w' => e = .returned (.tuple #[zeroNode, .int .i64 2]) ∧ Below w.heap.size w w' := by
  have HH := Lib.hid (fun W (hb : Below w.heap.size w W) => has_any h i W (H.keep hb) hn)
  rw [hi] at HH
  have HBa := Lib.hid (show ∀ o, Below w.heap.size w (w.alloc o) from fun o => (Below.refl _ _).alloc (Nat.le_refl _) _)
  clear H hi
  go_enter Tryz.func21, Tryz.ntmps21
  go_wp2_with (go_at_call 44; refine (HH.out _ (HBa.out _)).mono ?_; rintro e w2 ⟨rfl, hw⟩; subst hw)
  refine bodyPost_ret (v := .tuple #[zeroNode, .int .i64 2]) ?_ rfl ⟨rfl, HBa.out _⟩
  rw [results_cell_tmp Tryz.results21]
  have hl := run_loadVar_row (P := Tryz.prog) (w.alloc (.cells zeroCells 62)) w.heap.size 62 62 zeroCells (0, 0) _ (heap_alloc_new _ _) Tryz.underlying62 rfl (by rw [sizeKnown]; rfl)
  unfold zeroCells at hl
  simp [asAddr, hl, Result.andThen, zeroNode, zeroCells]

set_option maxRecDepth 100000 in
set_option maxHeartbeats 4000000 in
theorem list_at (h : Fsh) (i : Nat) (x : Nd × Value) (w : World) (H : Fs h w) (hx : h.X[i]? = some x) (hl : x.1.ents.length ≤ 1000000) :
    Calls Tryz.prog 119 #[.pointer (some ⟨h.p, 0, none⟩), .int .i64 (i : Int)] w fun e w' => ∃ v, e = .returned (.tuple #[v, .int .i64 (if x.1.kind = 2 then (if x.1.dead then 8 else 0) else 3)]) ∧
      w'.ownsRow w.heap.size 100 2 v (if x.1.kind = 2 then (if x.1.dead then [] else x.1.ents) else []).length (entCells (if x.1.kind = 2 then (if x.1.dead then [] else x.1.ents) else [])) ∧ Below w.heap.size w w' := by
  have hil : i < h.X.length := (List.getElem?_eq_some_iff.1 hx).1
  obtain ⟨g, cap, hv, _, _⟩ := H.slice (by omega)
  have c0 : w.cell? ⟨h.p, 0, none⟩ = some (.slice (some ⟨g, 0, none⟩) h.X.length cap) := by rw [← hv]; exact H.cell0
  have c1 := H.at_node hv hx (k := 13) (by omega) rfl
  have c2 := H.at_node hv hx (k := 16) (by omega) rfl
  have hhas : hasB h (i : Int) = true := by simp [hasB, hil]
  have hh := has_any h (i : Int) w H (by omega)
  rw [hhas] at hh
  have HH := Lib.hid hh
  have HD := Lib.hid (isDir_any h i x w H hx)
  have HC := Lib.hid (clone_any x.2 x.1.ents w (H.ents x (List.mem_of_getElem? hx)) hl)
  clear hh hv H hhas
  by_cases hk : x.1.kind = 2
  · have k2 : (x.1.kind == 2) = true := by rw [hk]; rfl
    rw [k2] at HD
    simp only [if_pos hk]
    clear hk k2
    cases hd : x.1.dead with
    | true =>
      rw [hd] at c1
      clear hd
      go_enter Tryz.func119, Tryz.ntmps119
      go_wp2_with (first
        | (go_at_call 44; refine HH.out.mono ?_; rintro e w2 ⟨rfl, hw⟩; subst hw)
        | (go_at_call 100; refine HD.out.mono ?_; rintro e w2 ⟨rfl, hw⟩; subst hw))
      go_ret2
      exact ⟨_, rfl, World.ownsRow_nil _ _ _ _, Below.refl _ _⟩
    | false =>
      rw [hd] at c1
      clear hd
      go_enter Tryz.func119, Tryz.ntmps119
      go_wp2_with (first
        | (go_at_call 44; refine HH.out.mono ?_; rintro e w2 ⟨rfl, hw⟩; subst hw)
        | (go_at_call 100; refine HD.out.mono ?_; rintro e w2 ⟨rfl, hw⟩; subst hw)
        | (go_at_call 133; refine HC.out.mono ?_; rintro e w2 ⟨u, rfl, ho, hb⟩; have HO := Lib.hid ho; have HB := Lib.hid hb; clear ho hb))
      go_ret2
      exact ⟨_, rfl, HO.out, HB.out⟩
  · have k2 : (x.1.kind == 2) = false := beq_eq_false_iff_ne.2 hk
    rw [k2] at HD
    simp only [if_neg hk]
    clear hk k2
    go_enter Tryz.func119, Tryz.ntmps119
    go_wp2_with (first
      | (go_at_call 44; refine HH.out.mono ?_; rintro e w2 ⟨rfl, hw⟩; subst hw)
      | (go_at_call 100; refine HD.out.mono ?_; rintro e w2 ⟨rfl, hw⟩; subst hw))
    go_ret2
    exact ⟨_, rfl, World.ownsRow_nil _ _ _ _, Below.refl _ _⟩

set_option maxRecDepth 100000 in
set_option maxHeartbeats 4000000 in
theorem link_at (h : Fsh) (i : Nat) (x : Nd × Value) (w : World) (H : Fs h w) (hx : h.X[i]? = some x) :
    Calls Tryz.prog 22 #[.pointer (some ⟨h.p, 0, none⟩), .int .i64 (i : Int)] w fun e w' => e = .returned (.tuple #[.string (if x.1.kind = 3 then (if x.1.dead then ⟨#[]⟩ else x.1.target) else ⟨#[]⟩), .int .i64 (if x.1.kind = 3 then (if x.1.dead then 8 else 0) else 1)]) ∧ w = w' := by
  have hil : i < h.X.length := (List.getElem?_eq_some_iff.1 hx).1
  obtain ⟨g, cap, hv, _, _⟩ := H.slice (by omega)
  have c0 : w.cell? ⟨h.p, 0, none⟩ = some (.slice (some ⟨g, 0, none⟩) h.X.length cap) := by rw [← hv]; exact H.cell0
  have c1 := H.at_node hv hx (k := 13) (by omega) rfl
  have c2 := H.at_node hv hx (k := 2) (by omega) rfl
  have c3 := H.at_node hv hx (k := 12) (by omega) rfl
  have hhas : hasB h (i : Int) = true := by simp [hasB, hil]
  have hh := has_any h (i : Int) w H (by omega)
  rw [hhas] at hh
  have HH := Lib.hid hh
  clear hh hv H hhas
  by_cases hk : x.1.kind = 3
  · have k2 : (x.1.kind != 3) = false := by rw [hk]; rfl
    simp only [if_pos hk]
    rw [hk] at c2
    clear hk k2
    cases hd : x.1.dead with
    | true =>
      rw [hd] at c1
      clear hd
      go_enter Tryz.func22, Tryz.ntmps22
      go_wp2_with (go_at_call 44; refine HH.out.mono ?_; rintro e w2 ⟨rfl, hw⟩; subst hw)
      go_ret2
      exact ⟨rfl, rfl⟩
    | false =>
      rw [hd] at c1
      clear hd
      go_enter Tryz.func22, Tryz.ntmps22
      go_wp2_with (go_at_call 44; refine HH.out.mono ?_; rintro e w2 ⟨rfl, hw⟩; subst hw)
      go_ret2
      exact ⟨rfl, rfl⟩
  · have k2 : (x.1.kind != 3) = true := by simpa using hk
    simp only [if_neg hk]
    clear hk
    go_enter Tryz.func22, Tryz.ntmps22
    go_wp2_with (go_at_call 44; refine HH.out.mono ?_; rintro e w2 ⟨rfl, hw⟩; subst hw)
    go_ret2
    exact ⟨rfl, rfl⟩

/-- At most so many entries a directory. -/
def FewE (M : List Nd) : Prop := ∀ n ∈ M, n.ents.length ≤ 1000000
section
variable {w0 w : World} {p : Nat} {M : List Nd}
theorem has_list (i : Int) (h : Has w0 p M w) (hn : 0 < M.length) (hl : FewE M) :
    Calls Tryz.prog 119 #[.pointer (some ⟨p, 0, none⟩), .int .i64 i] w fun e w' => ∃ v, e = .returned (.tuple #[v, .int .i64 (listE M i)]) ∧
      w'.ownsRow w.heap.size 100 2 v (listL M i).length (entCells (listL M i)) ∧ Below w.heap.size w w' := by
  obtain ⟨h, rfl, rfl, H, hb, hf⟩ := h
  have hml : h.M.length = h.X.length := List.length_map ..
  unfold listE listL
  cases ha : atM h.M i with
  | none =>
    refine (list_no h i w H (by omega) (atM_none ha)).mono ?_
    rintro e w' ⟨rfl, rfl⟩
    exact ⟨_, rfl, World.ownsRow_nil _ _ _ _, Below.refl _ _⟩
  | some n =>
    obtain ⟨k, x, rfl, hx, rfl⟩ := atM_at ha
    exact list_at h k x w H hx (hl _ (List.mem_map_of_mem (List.mem_of_getElem? hx)))
theorem has_link (i : Int) (h : Has w0 p M w) (hn : 0 < M.length) :
    Calls Tryz.prog 22 #[.pointer (some ⟨p, 0, none⟩), .int .i64 i] w fun e w' => e = .returned (.tuple #[.string (linkT M i), .int .i64 (linkE M i)]) ∧ w = w' := by
  obtain ⟨h, rfl, rfl, H, hb, hf⟩ := h
  have hml : h.M.length = h.X.length := List.length_map ..
  unfold linkE linkT
  cases ha : atM h.M i with
  | none => exact link_no h i w H (by omega) (atM_none ha)
  | some n =>
    obtain ⟨k, x, rfl, hx, rfl⟩ := atM_at ha
    exact link_at h k x w H hx
theorem has_over (i : Int) (h : Has w0 p M w) (hn : 0 < M.length) :
    Calls Tryz.prog 105 #[.pointer (some ⟨p, 0, none⟩), .int .i64 i] w fun e w' => e = .returned (.int .i64 (overI M i)) ∧ w = w' := by
  obtain ⟨h, rfl, rfl, H, hb, hf⟩ := h
  have hml : h.M.length = h.X.length := List.length_map ..
  unfold overI
  cases ha : atM h.M i with
  | none => exact over_no h i w H (by omega) (atM_none ha)
  | some n =>
    obtain ⟨k, x, rfl, hx, rfl⟩ := atM_at ha
    exact over_any h k x w H hx
theorem has_up (i : Int) (h : Has w0 p M w) (hn : 0 < M.length) :
    Calls Tryz.prog 118 #[.pointer (some ⟨p, 0, none⟩), .int .i64 i] w fun e w' => e = .returned (.int .i64 (upI M i)) ∧ w = w' := by
  obtain ⟨h, rfl, rfl, H, hb, hf⟩ := h
  have hml : h.M.length = h.X.length := List.length_map ..
  unfold upI
  cases ha : atM h.M i with
  | none => exact up_no h i w H (by omega) (atM_none ha)
  | some n =>
    obtain ⟨k, x, rfl, hx, rfl⟩ := atM_at ha
    exact up_any h k x w H hx
def nodeV' (M : List Nd) (i : Int) : Value := match atM M i with
  | none => zeroNode
  | some n => knownV n
def nodeEr (M : List Nd) (i : Int) : Int := match atM M i with
  | none => 2
  | some _ => 0
theorem has_nodeI (i : Int) (h : Has w0 p M w) (hn : 0 < M.length) :
    Calls Tryz.prog 21 #[.pointer (some ⟨p, 0, none⟩), .int .i64 i] w fun e w' => e = .returned (.tuple #[nodeV' M i, .int .i64 (nodeEr M i)]) ∧ Below w.heap.size w w' := by
  obtain ⟨h, rfl, rfl, H, hb, hf⟩ := h
  have hml : h.M.length = h.X.length := List.length_map ..
  unfold nodeV' nodeEr
  cases ha : atM h.M i with
  | none => exact node_no h i w H (by omega) (atM_none ha)
  | some n =>
    obtain ⟨k, x, rfl, hx, rfl⟩ := atM_at ha
    exact node_get h k x w H hx
end
end Go.Proofs.YtigkdehaepenhaaGreatDoor.V

namespace Go.Proofs.YtigkdehaepenhaaGreatDoor.V
open Go.RowKit

def entEq (a b : ByteArray × Int) : Bool := a.1.toList == b.1.toList && a.2 == b.2
def entsEq : List (ByteArray × Int) → List (ByteArray × Int) → Bool
  | [], [] => true
  | x :: r, y :: t => entEq x y && entsEq r t
  | _, _ => false
theorem entsEq_len : ∀ {a b : List (ByteArray × Int)}, entsEq a b = true → a.length = b.length
  | [], [], _ => rfl
  | x :: r, y :: t, h => by
    rw [entsEq, Bool.and_eq_true] at h
    rw [List.length_cons, List.length_cons, entsEq_len h.2]
  | [], y :: t, h => by simp [entsEq] at h
  | x :: r, [], h => by simp [entsEq] at h
theorem entsEq_self : ∀ a : List (ByteArray × Int), entsEq a a = true
  | [] => rfl
  | x :: r => by rw [entsEq, entsEq_self r]; simp [entEq]
theorem entsEq_no : ∀ {a b : List (ByteArray × Int)} {k : Nat} {x y : ByteArray × Int}, a[k]? = some x → b[k]? = some y → entEq x y = false → entsEq a b = false
  | x :: r, y :: t, 0, _, _, h, h', e => by
    simp at h h'
    subst h h'
    rw [entsEq, e]
    rfl
  | x :: r, y :: t, k + 1, _, _, h, h', e => by
    rw [entsEq, entsEq_no (a := r) (b := t) (k := k) (by simpa using h) (by simpa using h') e]
    simp
  | [], _, k, _, _, h, _, _ => by simp at h
  | x :: r, [], k, _, _, _, h, _ => by simp at h
theorem entsEq_all : ∀ {a b : List (ByteArray × Int)}, a.length = b.length → (∀ (k : Nat) (x y : ByteArray × Int), a[k]? = some x → b[k]? = some y → entEq x y = true) → entsEq a b = true
  | [], [], _, _ => rfl
  | x :: r, y :: t, h, e => by
    rw [entsEq, e 0 x y rfl rfl, entsEq_all (by simpa using h) (fun k u v hu hv => e (k + 1) u v (by simpa using hu) (by simpa using hv))]
    rfl
  | [], y :: t, h, _ => by simp at h
  | x :: r, [], h, _ => by simp at h

set_option maxRecDepth 100000 in
theorem run_neq_ent (W : World) (s t : ByteArray) (i j : Int) : (binOp .neq 100 (.agg #[.string s, .int .i64 i]) (.agg #[.string t, .int .i64 j])).run Tryz.prog W = .ok (.bool (!(entEq (s, i) (t, j)))) W := by
  simp [go_sem, entEq]
  by_cases h1 : s.toList = t.toList <;> by_cases h2 : i = j <;> simp [h1, h2]
theorem drewN_two (w : World) (a b : Nat) : (w.drewN a).drewN b = w.drewN (a + b) := by
  unfold World.drewN
  simp [Nat.add_assoc]
def EqRel (a b : List (ByteArray × Int)) (w : World) (v : Value) (wr : World) : Prop := ∃ k : Nat, k ≤ a.length ∧ v = .int .i64 (k : Int) ∧ Hid (∃ q, wr = w.drewN q) ∧ Hid (∀ j x y, j < k → a[j]? = some x → b[j]? = some y → entEq x y = true)

/-- Is all known of two nodes the same? -/
def knownB (n m : Nd) : Bool := n.dev == m.dev && (n.ino == m.ino && (n.kind == m.kind && (n.mode == m.mode && (n.uid == m.uid && (n.gid == m.gid && (n.size == m.size && (n.blocks == m.blocks && (n.links == m.links && (n.t0 == m.t0 && (n.t1 == m.t1 && (n.t2 == m.t2 && n.target.toList == m.target.toList)))))))))))
def alikeB (n m : Nd) : Bool := knownB n m && (n.dead == m.dead && (n.up == m.up && (n.over == m.over && entsEq n.ents m.ents)))
set_option maxRecDepth 100000 in
theorem run_equalIn_arr3 (d : Nat) (W : World) (a b c x y z : Int) : (Op.equalIn (d + 2) 60 (.agg #[.int .i64 a, .int .i64 b, .int .i64 c]) (.agg #[.int .i64 x, .int .i64 y, .int .i64 z])).run Tryz.prog W = .ok (a == x && (b == y && c == z)) W := by
  have hi : ∀ (W : World) (a b : Int), (Op.equalIn (d + 1) 2 (.int .i64 a) (.int .i64 b)).run Tryz.prog W = .ok (a == b) W := fun W a b => run_equalIn_int W d 2 .i64 .i64 a b Tryz.underlying2
  have ha : ∀ W, (isAgg 2).run Tryz.prog W = .ok false W := fun W => by kernel_rfl
  rw [show d + 2 = (d + 1) + 1 from rfl, Op.equalIn]
  simp only [Sem.run_bind, run_underlying Tryz.underlying60, Result.andThen_ok]
  simp [go_sem]
  rw [show List.range' 0 3 = [0, 1, 2] from rfl]
  by_cases h1 : a = x <;> by_cases h2 : b = y <;> by_cases h3 : c = z <;> simp [ha, hi, h1, h2, h3]
set_option maxRecDepth 100000 in
set_option maxHeartbeats 4000000 in
theorem run_eql_known (W : World) (n m : Nd) : (binOp .eql 62 (knownV n) (knownV m)).run Tryz.prog W = .ok (.bool (knownB n m)) W := by
  have h3 := fun W a b c x y z => run_equalIn_arr3 9997 W a b c x y z
  unfold knownV Nd.known knownB
  simp [go_sem, h3]
  repeat' split
  all_goals simp_all

theorem cells_at (n : Nd) (ev : Value) : (n.cells ev)[13]? = some (.bool n.dead) ∧ (n.cells ev)[14]? = some (.int .i64 n.up) ∧ (n.cells ev)[15]? = some (.int .i64 n.over) ∧ (n.cells ev)[16]? = some ev := ⟨rfl, rfl, rfl, rfl⟩
end Go.Proofs.YtigkdehaepenhaaGreatDoor.V
