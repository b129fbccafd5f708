/-
  What FS.Node returns. Conditions: the file system lies in memory.
  What FS.List, Link, Node, Over, Up return, of whatever number: of the model's nodes. Conditions: the file system lies in memory; at most 1000000 entries a directory.
  What Made returns: both file systems, behind the same changes. Conditions: at most 400 changes, texts that Few lets through.
  That the law VfsDevices returns true. Conditions: the changes that came in lie in memory.
-/
import Derived.Test.YtknfhphhcnbndaaGreatDoorFVRefApp
import Derived.Deep.MidRow
import Derived.Laws.ResultCell
import Derived.Lib.LazyBuf
import Derived.Test.YtknfhphhcnbndaaGreatDoorFVLinks
import Derived.Test.YtknfhphhcnbndaaGreatDoorFVCover
import Derived.Deep.QuietTactic
import Derived.BigQuiet
set_option linter.unusedVariables false
set_option linter.unusedSimpArgs false
namespace Go.Proofs.YtknfhphhcnbndaaGreatDoor.V
open List renaming setIfInBounds_toArray → lt, set_cons_zero → l0, set_cons_succ → ls
open Go.RowKit

def knownV (n : Nd) : Value := .agg n.known.toArray
theorem known_at (n : Nd) (ev : Value) {j : Nat} {u : Value} (h : n.known[j]? = some u) : (n.cells ev)[j]? = some u ∧ j < 13 := by
  have hj : j < 13 := (List.getElem?_eq_some_iff.1 h).1
  refine ⟨?_, hj⟩
  rw [← h]
  match j, hj with
  | 0, _ | 1, _ | 2, _ | 3, _ | 4, _ | 5, _ | 6, _ | 7, _ | 8, _ | 9, _ | 10, _ | 11, _ | 12, _ => rfl
theorem known_one (n : Nd) : n.known.toArray.all (·.oneCell') = true := all_oneCell_toArray (fun u hu => by
  simp only [Nd.known, List.mem_cons, List.mem_nil_iff, or_false] at hu
  rcases hu with rfl | rfl | rfl | rfl | rfl | rfl | rfl | rfl | rfl | rfl | rfl | rfl | rfl
  all_goals rfl)

set_option maxRecDepth 100000 in
set_option maxHeartbeats 4000000 in
theorem node_get (h : Fsh) (i : Nat) (x : Nd × Value) (w : World) (H : Fs h w) (hx : h.X[i]? = some x) :
    Calls Tryz.prog 30 #[.pointer (some ⟨h.p, 0, none⟩), .int .i64 (i : Int)] w fun e w' => e = .returned (.tuple #[knownV x.1, .int .i64 0]) ∧ Below w.heap.size w w' := by
  have hil : i < h.X.length := (List.getElem?_eq_some_iff.1 hx).1
  obtain ⟨g, cap, hv, _, _⟩ := H.slice (by omega)
  have hp : h.p < w.heap.size := H.lt (.inl rfl)
  have HK := Lib.hid (show ∀ W, Below w.heap.size w W → Fs h W from fun W hb => H.keep hb)
  have HBa := Lib.hid (show ∀ o, Below w.heap.size w (w.alloc o) from fun o => (Below.refl _ _).alloc (Nat.le_refl _) _)
  have HR := Lib.hid (show ∀ W, Below w.heap.size w W → W.rangeAt g (i * 17) x.1.known from fun W hb j v hj => (H.keep hb).at_node hv hx (show j < 17 from by have := (known_at x.1 x.2 hj).2; omega) (known_at x.1 x.2 hj).1)
  have c0 : w.cell? ⟨h.p, 0, none⟩ = some (.slice (some ⟨g, 0, none⟩) h.X.length cap) := by rw [← hv]; exact H.cell0
  have hhas : hasB h (i : Int) = true := by simp [hasB, hil]
  clear hv H
  go_enter Tryz.func30, Tryz.ntmps30
  go_wp2_with (first
    | (go_at_call 65; refine (has_any h (i : Int) _ (HK.out _ (HBa.out _)) (by omega)).mono ?_; rintro e w2 ⟨rfl, hw⟩; subst hw; rw [hhas])
    | (refine wpList_load_mid rfl 66 (.tmp 17) rfl g (i * 17) rfl x.1.known _ (HR.out _ (HBa.out _)) Tryz.underlying66 rfl sizeKnown ?_)
    | (refine wpList_store_row rfl 66 (.tmp 4) (.tmp 18) rfl w.heap.size x.1.known.toArray rfl rfl _ _ (heap_alloc_new _ _) (by rw [sizeKnown]; rfl) rfl (known_one x.1) ?_; rw [World.setRow_alloc_new]))
  refine bodyPost_ret (v := .tuple #[knownV x.1, .int .i64 0]) ?_ rfl ⟨rfl, HBa.out _⟩
  rw [results_cell_tmp Tryz.results30]
  have hl := run_loadVar_row (P := Tryz.prog) (w.alloc (.cells x.1.known.toArray 66)) w.heap.size 66 66 x.1.known.toArray (0, 0) _ (heap_alloc_new _ _) Tryz.underlying66 rfl (by rw [sizeKnown]; rfl)
  simp [asAddr, hl, Result.andThen, knownV]
end Go.Proofs.YtknfhphhcnbndaaGreatDoor.V

namespace Go.Proofs.YtknfhphhcnbndaaGreatDoor.V
open List renaming setIfInBounds_toArray → lt, set_cons_zero → l0, set_cons_succ → ls
open Go.RowKit

def listE (M : List Nd) (i : Int) : Int := match atM M i with
  | none => 2
  | some n => if n.kind = 2 then (if n.dead then 8 else 0) else 3
def listL (M : List Nd) (i : Int) : List (ByteArray × Int) := match atM M i with
  | none => []
  | some n => if n.kind = 2 then (if n.dead then [] else n.ents) else []
def linkE (M : List Nd) (i : Int) : Int := match atM M i with
  | none => 2
  | some n => if n.kind = 3 then (if n.dead then 8 else 0) else 1
def linkT (M : List Nd) (i : Int) : ByteArray := match atM M i with
  | none => ⟨#[]⟩
  | some n => if n.kind = 3 then (if n.dead then ⟨#[]⟩ else n.target) else ⟨#[]⟩
def overI (M : List Nd) (i : Int) : Int := match atM M i with
  | none => i
  | some n => n.over
def upI (M : List Nd) (i : Int) : Int := match atM M i with
  | none => -1
  | some n => n.up

theorem atM_none {h : Fsh} {i : Int} (hi : atM h.M i = none) : hasB h i = false := by
  unfold atM at hi
  unfold hasB
  rw [decide_eq_false_iff_not]
  intro q
  have hml : h.M.length = h.X.length := List.length_map ..
  rw [if_pos (by omega)] at hi
  have := List.getElem?_eq_none_iff.1 hi
  omega
theorem atM_at {h : Fsh} {i : Int} {n : Nd} (hi : atM h.M i = some n) : ∃ (k : Nat) (x : Nd × Value), i = (k : Int) ∧ h.X[k]? = some x ∧ x.1 = n := by
  obtain ⟨k, hk, hn⟩ := atM_some hi
  obtain ⟨x, hx, hxn⟩ := fs_at hn
  exact ⟨k, x, hk, hx, hxn⟩

theorem infoEnt : (Tryz.prog.info? 177).map (fun i => (i.zero, i.size, i.bytes)) = some (some (.agg #[.string ⟨#[]⟩, .int .i64 0]), 2, 24) := by kernel_rfl
theorem ents_one : ∀ l : List (ByteArray × Int), ∀ u ∈ entCells l, u.oneCell' = true
  | [], u, hu => by cases hu
  | x :: r, u, hu => by
    rw [entCells] at hu
    rcases List.mem_cons.1 hu with rfl | hu
    · rfl
    · rcases List.mem_cons.1 hu with rfl | hu
      · rfl
      · exact ents_one r u hu

set_option maxRecDepth 100000 in
set_option maxHeartbeats 4000000 in
/-- slices.Clone of a row of entries: a new row of the same. -/
theorem clone_any (v : Value) (l : List (ByteArray × Int)) (w : World) (H : w.ownsRow 0 177 2 v l.length (entCells l)) (hl : l.length ≤ 1000000) :
    Calls Tryz.prog 224 #[v] w fun e w' => ∃ u, e = .returned u ∧ w'.ownsRow w.heap.size 177 2 u l.length (entCells l) ∧ Below w.heap.size w w' := by
  have hnil := fun W a n c => _root_.Go.run_eql_slice_nil (P := Tryz.prog) W 133 177 a n c Tryz.underlying133
  rcases H.2 with ⟨rfl, h0⟩ | ⟨g, cap, cur, rfl, _⟩
  · obtain rfl : l = [] := List.eq_nil_of_length_eq_zero h0
    go_enter Tryz.func224, Tryz.ntmps224
    go_wp2
    go_ret
    exact ⟨_, rfl, World.ownsRow_nil _ _ _ _, Below.refl _ _⟩
  · obtain ⟨i0, hi, hz0, hz1, hz2⟩ := info_parts infoEnt
    have HMX := Lib.hid (show 0 + l.length ≤ maxLen from by unfold maxLen; omega)
    have HS := Lib.hid (show ∀ o, (w.alloc o).ownsRow 0 177 2 (.slice (some ⟨g, 0, none⟩) l.length cap) l.length (entCells l) from fun o => H.alloc o)
    clear H
    go_enter Tryz.func224, Tryz.ntmps224
    go_wp2_with (at_builtin; refine wpList_append_row rfl (.tmp 5) (.tmp 6) 133 rfl w.heap.size 177 i0 _ 2 24 Tryz.underlying133 hi hz0 hz1 hz2 rfl (by decide) (.slice (some ⟨w.heap.size, 0, none⟩) 0 0) 0 [] rfl (owns_made (Nat.le_refl _)) (.slice (some ⟨g, 0, none⟩) l.length cap) l.length (entCells l) rfl (HS.out _) (ents_one l) HMX.out (by omega) (by simp) ?_; intro v1 w1 hown1 hg1; rw [Nat.zero_add, List.nil_append] at hown1; have HO := Lib.hid hown1; have HG := Lib.hid hg1; clear hown1 hg1)
    go_ret
    exact ⟨_, rfl, HO.out, ((Below.refl _ _).alloc (Nat.le_refl _) _).grown HG.out (by simp) (fun j hj => by cases hj; exact Nat.le_refl _)⟩

/-- What an asker sees of the node number i: the facts on its cells. -/
theorem list_no (h : Fsh) (i : Int) (w : World) (H : Fs h w) (hn : 0 < h.X.length) (hi : hasB h i = false) :
    Calls Tryz.prog 167 #[.pointer (some ⟨h.p, 0, none⟩), .int .i64 i] w fun e w' => e = .returned (.tuple #[.slice none 0 0, .int .i64 2]) ∧ w = w' := by
  have hh := has_any h i w H hn
  rw [hi] at hh
  have HH := Lib.hid hh
  clear hh H hi
  go_enter Tryz.func167, Tryz.ntmps167
  go_wp2_with (refine HH.out.mono ?_; rintro e w2 ⟨rfl, hw⟩; subst hw)
  go_ret2
  exact ⟨rfl, rfl⟩
theorem link_no (h : Fsh) (i : Int) (w : World) (H : Fs h w) (hn : 0 < h.X.length) (hi : hasB h i = false) :
    Calls Tryz.prog 84 #[.pointer (some ⟨h.p, 0, none⟩), .int .i64 i] w fun e w' => e = .returned (.tuple #[.string ⟨#[]⟩, .int .i64 2]) ∧ w = w' := by
  have hh := has_any h i w H hn
  rw [hi] at hh
  have HH := Lib.hid hh
  clear hh H hi
  go_enter Tryz.func84, Tryz.ntmps84
  go_wp2_with (refine HH.out.mono ?_; rintro e w2 ⟨rfl, hw⟩; subst hw)
  go_ret2
  exact ⟨rfl, rfl⟩
def zeroCells : Array Value := #[.int .i64 0, .int .i64 0, .int .i64 0, .int .i64 0, .int .i64 0, .int .i64 0, .int .i64 0, .int .i64 0, .int .i64 0, .int .i64 0, .int .i64 0, .int .i64 0, .string ⟨#[]⟩]
def zeroNode : Value := .agg zeroCells
set_option maxRecDepth 100000 in
set_option maxHeartbeats 4000000 in
theorem node_no (h : Fsh) (i : Int) (w : World) (H : Fs h w) (hn : 0 < h.X.length) (hi : hasB h i = false) :
    Calls Tryz.prog 30 #[.pointer (some ⟨h.p, 0, none⟩), .int .i64 i] w fun e w' => e = .returned (.tuple #[zeroNode, .int .i64 2]) ∧ Below w.heap.size w w' := by
  have HH := Lib.hid (fun W (hb : Below w.heap.size w W) => has_any h i W (H.keep hb) hn)
  rw [hi] at HH
  have HBa := Lib.hid (show ∀ o, Below w.heap.size w (w.alloc o) from fun o => (Below.refl _ _).alloc (Nat.le_refl _) _)
  clear H hi
  go_enter Tryz.func30, Tryz.ntmps30
  go_wp2_with (go_at_call 65; refine (HH.out _ (HBa.out _)).mono ?_; rintro e w2 ⟨rfl, hw⟩; subst hw)
  refine bodyPost_ret (v := .tuple #[zeroNode, .int .i64 2]) ?_ rfl ⟨rfl, HBa.out _⟩
  rw [results_cell_tmp Tryz.results30]
  have hl := run_loadVar_row (P := Tryz.prog) (w.alloc (.cells zeroCells 66)) w.heap.size 66 66 zeroCells (0, 0) _ (heap_alloc_new _ _) Tryz.underlying66 rfl (by rw [sizeKnown]; rfl)
  unfold zeroCells at hl
  simp [asAddr, hl, Result.andThen, zeroNode, zeroCells]

set_option maxRecDepth 100000 in
set_option maxHeartbeats 4000000 in
theorem list_at (h : Fsh) (i : Nat) (x : Nd × Value) (w : World) (H : Fs h w) (hx : h.X[i]? = some x) (hl : x.1.ents.length ≤ 1000000) :
    Calls Tryz.prog 167 #[.pointer (some ⟨h.p, 0, none⟩), .int .i64 (i : Int)] w fun e w' => ∃ v, e = .returned (.tuple #[v, .int .i64 (if x.1.kind = 2 then (if x.1.dead then 8 else 0) else 3)]) ∧
      w'.ownsRow w.heap.size 177 2 v (if x.1.kind = 2 then (if x.1.dead then [] else x.1.ents) else []).length (entCells (if x.1.kind = 2 then (if x.1.dead then [] else x.1.ents) else [])) ∧ Below w.heap.size w w' := by
  have hil : i < h.X.length := (List.getElem?_eq_some_iff.1 hx).1
  obtain ⟨g, cap, hv, _, _⟩ := H.slice (by omega)
  have c0 : w.cell? ⟨h.p, 0, none⟩ = some (.slice (some ⟨g, 0, none⟩) h.X.length cap) := by rw [← hv]; exact H.cell0
  have c1 := H.at_node hv hx (k := 13) (by omega) rfl
  have c2 := H.at_node hv hx (k := 16) (by omega) rfl
  have hhas : hasB h (i : Int) = true := by simp [hasB, hil]
  have hh := has_any h (i : Int) w H (by omega)
  rw [hhas] at hh
  have HH := Lib.hid hh
  have HD := Lib.hid (isDir_any h i x w H hx)
  have HC := Lib.hid (clone_any x.2 x.1.ents w (H.ents x (List.mem_of_getElem? hx)) hl)
  clear hh hv H hhas
  by_cases hk : x.1.kind = 2
  · have k2 : (x.1.kind == 2) = true := by rw [hk]; rfl
    rw [k2] at HD
    simp only [if_pos hk]
    clear hk k2
    cases hd : x.1.dead with
    | true =>
      rw [hd] at c1
      clear hd
      go_enter Tryz.func167, Tryz.ntmps167
      go_wp2_with (first
        | (go_at_call 65; refine HH.out.mono ?_; rintro e w2 ⟨rfl, hw⟩; subst hw)
        | (go_at_call 178; refine HD.out.mono ?_; rintro e w2 ⟨rfl, hw⟩; subst hw))
      go_ret2
      exact ⟨_, rfl, World.ownsRow_nil _ _ _ _, Below.refl _ _⟩
    | false =>
      rw [hd] at c1
      clear hd
      go_enter Tryz.func167, Tryz.ntmps167
      go_wp2_with (first
        | (go_at_call 65; refine HH.out.mono ?_; rintro e w2 ⟨rfl, hw⟩; subst hw)
        | (go_at_call 178; refine HD.out.mono ?_; rintro e w2 ⟨rfl, hw⟩; subst hw)
        | (go_at_call 224; refine HC.out.mono ?_; rintro e w2 ⟨u, rfl, ho, hb⟩; have HO := Lib.hid ho; have HB := Lib.hid hb; clear ho hb))
      go_ret2
      exact ⟨_, rfl, HO.out, HB.out⟩
  · have k2 : (x.1.kind == 2) = false := beq_eq_false_iff_ne.2 hk
    rw [k2] at HD
    simp only [if_neg hk]
    clear hk k2
    go_enter Tryz.func167, Tryz.ntmps167
    go_wp2_with (first
      | (go_at_call 65; refine HH.out.mono ?_; rintro e w2 ⟨rfl, hw⟩; subst hw)
      | (go_at_call 178; refine HD.out.mono ?_; rintro e w2 ⟨rfl, hw⟩; subst hw))
    go_ret2
    exact ⟨_, rfl, World.ownsRow_nil _ _ _ _, Below.refl _ _⟩

set_option maxRecDepth 100000 in
set_option maxHeartbeats 4000000 in
theorem link_at (h : Fsh) (i : Nat) (x : Nd × Value) (w : World) (H : Fs h w) (hx : h.X[i]? = some x) :
    Calls Tryz.prog 84 #[.pointer (some ⟨h.p, 0, none⟩), .int .i64 (i : Int)] w fun e w' => e = .returned (.tuple #[.string (if x.1.kind = 3 then (if x.1.dead then ⟨#[]⟩ else x.1.target) else ⟨#[]⟩), .int .i64 (if x.1.kind = 3 then (if x.1.dead then 8 else 0) else 1)]) ∧ w = w' := by
  have hil : i < h.X.length := (List.getElem?_eq_some_iff.1 hx).1
  obtain ⟨g, cap, hv, _, _⟩ := H.slice (by omega)
  have c0 : w.cell? ⟨h.p, 0, none⟩ = some (.slice (some ⟨g, 0, none⟩) h.X.length cap) := by rw [← hv]; exact H.cell0
  have c1 := H.at_node hv hx (k := 13) (by omega) rfl
  have c2 := H.at_node hv hx (k := 2) (by omega) rfl
  have c3 := H.at_node hv hx (k := 12) (by omega) rfl
  have hhas : hasB h (i : Int) = true := by simp [hasB, hil]
  have hh := has_any h (i : Int) w H (by omega)
  rw [hhas] at hh
  have HH := Lib.hid hh
  clear hh hv H hhas
  by_cases hk : x.1.kind = 3
  · have k2 : (x.1.kind != 3) = false := by rw [hk]; rfl
    simp only [if_pos hk]
    rw [hk] at c2
    clear hk k2
    cases hd : x.1.dead with
    | true =>
      rw [hd] at c1
      clear hd
      go_enter Tryz.func84, Tryz.ntmps84
      go_wp2_with (go_at_call 65; refine HH.out.mono ?_; rintro e w2 ⟨rfl, hw⟩; subst hw)
      go_ret2
      exact ⟨rfl, rfl⟩
    | false =>
      rw [hd] at c1
      clear hd
      go_enter Tryz.func84, Tryz.ntmps84
      go_wp2_with (go_at_call 65; refine HH.out.mono ?_; rintro e w2 ⟨rfl, hw⟩; subst hw)
      go_ret2
      exact ⟨rfl, rfl⟩
  · have k2 : (x.1.kind != 3) = true := by simpa using hk
    simp only [if_neg hk]
    clear hk
    go_enter Tryz.func84, Tryz.ntmps84
    go_wp2_with (go_at_call 65; refine HH.out.mono ?_; rintro e w2 ⟨rfl, hw⟩; subst hw)
    go_ret2
    exact ⟨rfl, rfl⟩

/-- At most so many entries a directory. -/
def FewE (M : List Nd) : Prop := ∀ n ∈ M, n.ents.length ≤ 1000000
section
variable {w0 w : World} {p : Nat} {M : List Nd}
theorem has_list (i : Int) (h : Has w0 p M w) (hn : 0 < M.length) (hl : FewE M) :
    Calls Tryz.prog 167 #[.pointer (some ⟨p, 0, none⟩), .int .i64 i] w fun e w' => ∃ v, e = .returned (.tuple #[v, .int .i64 (listE M i)]) ∧
      w'.ownsRow w.heap.size 177 2 v (listL M i).length (entCells (listL M i)) ∧ Below w.heap.size w w' := by
  obtain ⟨h, rfl, rfl, H, hb, hf⟩ := h
  have hml : h.M.length = h.X.length := List.length_map ..
  unfold listE listL
  cases ha : atM h.M i with
  | none =>
    refine (list_no h i w H (by omega) (atM_none ha)).mono ?_
    rintro e w' ⟨rfl, rfl⟩
    exact ⟨_, rfl, World.ownsRow_nil _ _ _ _, Below.refl _ _⟩
  | some n =>
    obtain ⟨k, x, rfl, hx, rfl⟩ := atM_at ha
    exact list_at h k x w H hx (hl _ (List.mem_map_of_mem (List.mem_of_getElem? hx)))
theorem has_link (i : Int) (h : Has w0 p M w) (hn : 0 < M.length) :
    Calls Tryz.prog 84 #[.pointer (some ⟨p, 0, none⟩), .int .i64 i] w fun e w' => e = .returned (.tuple #[.string (linkT M i), .int .i64 (linkE M i)]) ∧ w = w' := by
  obtain ⟨h, rfl, rfl, H, hb, hf⟩ := h
  have hml : h.M.length = h.X.length := List.length_map ..
  unfold linkE linkT
  cases ha : atM h.M i with
  | none => exact link_no h i w H (by omega) (atM_none ha)
  | some n =>
    obtain ⟨k, x, rfl, hx, rfl⟩ := atM_at ha
    exact link_at h k x w H hx
theorem has_over (i : Int) (h : Has w0 p M w) (hn : 0 < M.length) :
    Calls Tryz.prog 59 #[.pointer (some ⟨p, 0, none⟩), .int .i64 i] w fun e w' => e = .returned (.int .i64 (overI M i)) ∧ w = w' := by
  obtain ⟨h, rfl, rfl, H, hb, hf⟩ := h
  have hml : h.M.length = h.X.length := List.length_map ..
  unfold overI
  cases ha : atM h.M i with
  | none => exact over_no h i w H (by omega) (atM_none ha)
  | some n =>
    obtain ⟨k, x, rfl, hx, rfl⟩ := atM_at ha
    exact over_any h k x w H hx
theorem has_up (i : Int) (h : Has w0 p M w) (hn : 0 < M.length) :
    Calls Tryz.prog 189 #[.pointer (some ⟨p, 0, none⟩), .int .i64 i] w fun e w' => e = .returned (.int .i64 (upI M i)) ∧ w = w' := by
  obtain ⟨h, rfl, rfl, H, hb, hf⟩ := h
  have hml : h.M.length = h.X.length := List.length_map ..
  unfold upI
  cases ha : atM h.M i with
  | none => exact up_no h i w H (by omega) (atM_none ha)
  | some n =>
    obtain ⟨k, x, rfl, hx, rfl⟩ := atM_at ha
    exact up_any h k x w H hx
def nodeV' (M : List Nd) (i : Int) : Value := match atM M i with
  | none => zeroNode
  | some n => knownV n
def nodeEr (M : List Nd) (i : Int) : Int := match atM M i with
  | none => 2
  | some _ => 0
theorem has_nodeI (i : Int) (h : Has w0 p M w) (hn : 0 < M.length) :
    Calls Tryz.prog 30 #[.pointer (some ⟨p, 0, none⟩), .int .i64 i] w fun e w' => e = .returned (.tuple #[nodeV' M i, .int .i64 (nodeEr M i)]) ∧ Below w.heap.size w w' := by
  obtain ⟨h, rfl, rfl, H, hb, hf⟩ := h
  have hml : h.M.length = h.X.length := List.length_map ..
  unfold nodeV' nodeEr
  cases ha : atM h.M i with
  | none => exact node_no h i w H (by omega) (atM_none ha)
  | some n =>
    obtain ⟨k, x, rfl, hx, rfl⟩ := atM_at ha
    exact node_get h k x w H hx
end
end Go.Proofs.YtknfhphhcnbndaaGreatDoor.V

namespace Go.Proofs.YtknfhphhcnbndaaGreatDoor.V
open List renaming setIfInBounds_toArray → lt, set_cons_zero → l0, set_cons_succ → ls
open Go.RowKit Go.BigFrame

def MadeRel (cs : List Chg) (w : World) (p B5 : Nat) (v : Value) (wr : World) : Prop := ∃ (k : Nat) (L : List It) (r : Rv), k ≤ cs.length ∧ v = .int .i64 (k : Int) ∧ L.length ≤ k ∧ Hid (Twin w p (runM (cs.take k) newM) L r wr) ∧
  wr.heap[w.heap.size]? = some (.cells nilsR 31 (0, 0)) ∧ wr.heap[B5]? = some (.cells #[r.n, r.l, r.c, r.d, r.a, r.f] 31 (0, 0))

def MadeMid (w5 : World) (M : List Nd) (c : Chg) (L : List It) (B7 : Nat) (W : World) : Prop := ∃ (r : Rv) (L' : List It), W.heap[B7]? = some (.cells #[r.n, r.l, r.c, r.d, r.a, r.f] 31 (0, 0)) ∧ Rs (doM M c) L' r W ∧ Rel (doM M c) L' ∧ L'.length ≤ L.length + 1 ∧ Below w5.heap.size w5 W ∧ w5.heap.size ≤ B7
theorem rs_one {M : List Nd} {L : List It} {v : Rv} {w : World} (h : Rs M L v w) : (#[v.n, v.l, v.c, v.d, v.a, v.f] : Array Value).all (·.oneCell') = true := rv_one (rown_rs h)
theorem But.from {b B : Nat} {w0 w w' : World} (h : But b w w') (h0 : Below B w0 w) (hB : B ≤ b) (hw : B ≤ w.heap.size) : Below B w0 w' := h.below h0 hB hw

theorem runM_pos : ∀ (cs : List Chg) (M : List Nd), 0 < M.length → 0 < (runM cs M).length
  | [], M, h => h
  | c :: r, M, h => runM_pos r (doM M c) (len_do h)
theorem Has.but {w0 w w' : World} {p b : Nat} {M : List Nd} (h : Has w0 p M w) (g : But b w w') {cs : Array Value} (hb : w.heap[b]? = some (.cells cs 31 (0, 0))) (hB : w0.heap.size ≤ b) : Has w0 p M w' := by
  obtain ⟨h, h1, h2, H, hb1, hf⟩ := h
  refine ⟨h, h1, h2, H.at (fun k hk => g.block k (H.lt hk) ?_), g.below hb1 hB hb1.size, hf⟩
  rintro rfl
  obtain ⟨cur, T, hc, hT⟩ := foot_type H hk
  rw [hb] at hc
  simp only [Option.some.injEq, Obj.cells.injEq, and_true] at hc
  obtain ⟨_, rfl⟩ := hc
  revert hT
  decide
theorem results_made {tmps : Array Value} {w : World} {g : Nat} {p' : Value} {cs : Array Value} {T : TypeId} {fr : Nat × Nat} (h2 : tmps.getD 2 undef = p') (h3 : tmps.getD 3 undef = .pointer (some ⟨g, 0, none⟩)) (hg : w.heap[g]? = some (.cells cs T fr)) (hs : cs.size = 6) :
    (results Tryz.f15 tmps).run Tryz.prog w = .ok (.tuple #[p', .agg cs]) w := by
  have hp' : tmps[3]?.getD undef = .pointer (some ⟨g, 0, none⟩) := by simpa using h3
  have hp2 : tmps[2]?.getD undef = p' := by simpa using h2
  have hl := run_loadVar_row (P := Tryz.prog) w g T 31 cs fr _ hg Tryz.underlying31 rfl (by rw [sizeRef, hs])
  simp [results, hp', hp2, asAddr, hl]

theorem Has.from {w0 w1 w : World} {p : Nat} {M : List Nd} (h : Has w1 p M w) (hb : Below w0.heap.size w0 w1) : Has w0 p M w := by
  obtain ⟨h, h1, h2, H, hb1, hf⟩ := h
  exact ⟨h, h1, h2, H, below_two hb hb1, fun k hk => Nat.le_trans hb.size (hf k hk)⟩

set_option maxRecDepth 100000 in
set_option maxHeartbeats 8000000 in
theorem made_any (cs : List Chg) (a : Option Addr) (cap : Nat) (w : World) (H : IsChgs w a cs) (hl : cs.length ≤ 400) (hf : FewL cs) (hn : ∀ c ∈ cs, -9223372036854775808 ≤ c.n ∧ c.n ≤ 9223372036854775807) :
    Calls Tryz.prog 15 #[.slice a cs.length cap] w fun e w' => ∃ p r L, e = .returned (.tuple #[.pointer (some ⟨p, 0, none⟩), rvV r]) ∧ Twin w p (runM cs newM) L r w' ∧ L.length ≤ cs.length := by
  have HH := Lib.hid H
  have HF := Lib.hid hf
  have HN := Lib.hid hn
  clear H hf hn
  have q0 := heap_alloc_new w (.cells nilsR 31)
  have B0 := (Below.refl w.heap.size w).alloc (Nat.le_refl _) (.cells nilsR 31)
  have HQ0 := Lib.hid q0
  have HB0 := Lib.hid B0
  unfold nilsR at q0 B0
  go_enter Tryz.func15, Tryz.ntmps15
  go_upto_region 2 with (first
    | (go_at_call 34; refine (new_any _).mono ?_; rintro e w2 ⟨p, rfl, H2⟩; have HP2 := Lib.hid (H2.from HB0.out); have HQ2 := Lib.hid (box_keep2 HQ0.out H2.below); clear H2 q0 B0)
    | (go_at_call 40; refine (rnew_any _).mono ?_; rintro e w3 ⟨v3, rfl, ho3, hb3⟩; have HT3 := Lib.hid (show Twin w p newM [] v3 w3 from ⟨HP2.out.keep hb3, rs_new ho3, rel_new⟩); have HQ3 := Lib.hid (box_keep2 HQ2.out hb3); have HN3 := Lib.hid (rv_one ho3); clear ho3 hb3)
    | (refine wpList_store_row rfl 31 (.tmp 5) (.tmp 11) rfl w3.heap.size #[v3.n, v3.l, v3.c, v3.d, v3.a, v3.f] rfl rfl 31 nilsR (heap_alloc_new _ _) sizeRef rfl HN3.out ?_; rw [World.setRow_alloc_new]))
  have HB4 := Lib.hid (show Below w3.heap.size w3 (w3.alloc (.cells #[v3.n, v3.l, v3.c, v3.d, v3.a, v3.f] 31)) from (Below.refl _ _).alloc (Nat.le_refl _) _)
  have HQ4 := Lib.hid (heap_alloc_new w3 (.cells #[v3.n, v3.l, v3.c, v3.d, v3.a, v3.f] 31))
  have HBW := Lib.hid (show Below w.heap.size w (w3.alloc (.cells #[v3.n, v3.l, v3.c, v3.d, v3.a, v3.f] 31)) from (HT3.out.keep HB4.out).fs.below)
  generalize w3.alloc (.cells #[v3.n, v3.l, v3.c, v3.d, v3.a, v3.f] 31) = w4 at HB4 HQ4 HBW ⊢
  have HR0 := Lib.hid (show MadeRel cs w p w3.heap.size (.int .i64 0) w4 from ⟨0, [], v3, Nat.zero_le _, rfl, Nat.zero_le _, Lib.hid (HT3.out.keep HB4.out), box_keep2 HQ3.out HB4.out, HQ4.out⟩)
  have HLT := Lib.hid (heap_lt HQ3.out)
  generalize w3.heap.size = B5 at HR0 HQ4 HLT ⊢
  go_wp2_with fail
  go_loopw [6] (MadeRel cs w p B5) (fun v _ => cs.length - (intOf v).toNat)
  case atStart => exact HR0.out
  case round =>
    obtain ⟨k, L, r, hk, rfl, hL, HT, hq, hb⟩ := hrel
    have HQ := Lib.hid hq
    have HBX := Lib.hid hb
    clear hq hb
    by_cases hlt : k < cs.length
    · have d1 : decide ((k : Int) < (cs.length : Int)) = true := decide_eq_true (by omega)
      obtain ⟨c, hc⟩ : ∃ c, cs[k]? = some c := ⟨_, List.getElem?_eq_getElem hlt⟩
      obtain ⟨g, o, rfl, hr⟩ := (HH.out.keep HT.out.fs.below).at_ hc
      have HR := Lib.hid (show ∀ W, Below w.heap.size w W → W.rangeAt g (o + k * 8) (chgL c) from fun W hW => by
        obtain ⟨g', o', e, h⟩ := (HH.out.keep hW).at_ hc
        cases e
        exact h)
      have HRW := Lib.hid hr
      have HC := Lib.hid hc
      have HK := Lib.hid (runM_take hc newM)
      obtain ⟨n1, n2⟩ := HN.out c (List.mem_of_getElem? hc)
      obtain ⟨s1, s2⟩ := HF.out k c (by omega) hc
      have HSM := Lib.hid (show Small (runM (cs.take k) newM) k from by
        have := runM_small (cs.take k) newM 0 new_small
        rwa [List.length_take, Nat.min_eq_left hk, Nat.zero_add] at this)
      have HDV := Lib.hid (runM_dev (cs.take k) newM devInv_new)
      have HM0 := Lib.hid (runM_pos (cs.take k) newM (by decide))
      clear hr hc
      generalize runM (cs.take k) newM = M at HT HK HSM HDV HM0
      have HCV := Lib.hid (show chgV c = .agg (chgL c).toArray from rfl)
      have HD := Lib.hid (has_do_keeps (c := c) HT.out.fs HSM.out (by omega) HM0.out ⟨n1, n2⟩)
      go_upto_region 6 with (first
        | (refine wpList_load_mid rfl 89 (.tmp 21) rfl g (o + k * 8) rfl (chgL c) _ HRW.out Tryz.underlying89 rfl sizeChg ?_)
        | (go_at_call 35; rw [← HCV.out]; refine HD.out.mono ?_; rintro e w5 ⟨rfl, H5, K5, z5⟩; have HH5 := Lib.hid H5; have HK5 := Lib.hid K5; clear H5 K5))
      have HW5 := Lib.hid HH5.out.below
      have HB5 := Lib.hid (HK5.out B5 _ _ HBX.out (by decide) (by decide) (by decide))
      have HQ5 := Lib.hid (HK5.out _ _ _ HQ.out (by decide) (by decide) (by decide))
      have HS5 := Lib.hid (HK5.out.rs HT.out.rs)
      have HFc := Lib.hid (show ∀ W, Below w5.heap.size w5 W → W.cell? ⟨B5, 0, none⟩ = some r.n ∧ W.cell? ⟨B5, 1, none⟩ = some r.l ∧ W.cell? ⟨B5, 2, none⟩ = some r.c ∧ W.cell? ⟨B5, 3, none⟩ = some r.d ∧ W.cell? ⟨B5, 4, none⟩ = some r.a ∧ W.cell? ⟨B5, 5, none⟩ = some r.f from fun W hW => by
        have q := box_keep2 HB5.out hW
        refine ⟨?_, ?_, ?_, ?_, ?_, ?_⟩ <;> (rw [cell_of_row _ _ _ _ _ _ q]; rfl))
      have HCc := Lib.hid (show ∀ W, Below w5.heap.size w5 W → W.cell? ⟨g, o + k * 8, none⟩ = some (.int .i64 c.kind) ∧ W.cell? ⟨g, o + k * 8 + 1, none⟩ = some (.int .i64 c.at_) ∧ W.cell? ⟨g, o + k * 8 + 2, none⟩ = some (.int .i64 c.to) ∧ W.cell? ⟨g, o + k * 8 + 3, none⟩ = some (.string c.name) ∧ W.cell? ⟨g, o + k * 8 + 4, none⟩ = some (.string c.text) ∧ W.cell? ⟨g, o + k * 8 + 5, none⟩ = some (.int .i64 c.a) ∧ W.cell? ⟨g, o + k * 8 + 6, none⟩ = some (.int .i64 c.b) ∧ W.cell? ⟨g, o + k * 8 + 7, none⟩ = some (.int .i64 c.n) from fun W hW => by
        have q := HR.out W (below_two HW5.out hW)
        exact ⟨q 0 _ rfl, q 1 _ rfl, q 2 _ rfl, q 3 _ rfl, q 4 _ rfl, q 5 _ rfl, q 6 _ rfl, q 7 _ rfl⟩)
      have HRD := Lib.hid (show ∀ W, Below w5.heap.size w5 W → Calls Tryz.prog 41 #[.agg #[r.n, r.l, r.c, r.d, r.a, r.f], chgV c] W (RDoP M L c W) from fun W hW => rdo_any M L r c W (HS5.out.keep hW) HT.out.rel HDV.out (by have := HSM.out.1; omega) (by omega) HM0.out (by omega) (by omega) n2)
      go_cut [7, 8, 9] from 24 to 34 (fun a7 a8 a9 wx => ∃ B7, a7 = .pointer (some ⟨B7, 0, none⟩) ∧ MadeMid w5 M c L B7 wx)
      case first =>
        refine Till.region (z := 13) (S := fun w' => Below w5.heap.size w5 w') (by kernel_rfl) ((Below.refl _ _).drew) (fun hHeld => ?_)
        refine Till.take (i := 0) (oi := ⟨some 25, .load 31 (.tmp 5), 31, "law.go:25", #[], none⟩) (v := .agg #[r.n, r.l, r.c, r.d, r.a, r.f]) rfl (by kernel_rfl) (by kernel_rfl) (by kernel_rfl) (by kernel_rfl) (fun _ _ _ h => h) (Or.inl ⟨by rfl, fun w0 hS0 => ?_⟩) (by assumption) ?_
        · obtain ⟨c0, c1, c2, c3, c4, c5⟩ := HFc.out _ hS0; go_simp
        try simp only [Act.put, lt, l0, ls]
        refine Till.take (i := 1) (oi := ⟨some 26, .move (.tmp 0), 22, "law.go:25", #[], none⟩) (v := .slice (some ⟨g, o, none⟩) cs.length cap) rfl (by kernel_rfl) (by kernel_rfl) (by kernel_rfl) (by kernel_rfl) (fun _ _ _ h => h) (Or.inl ⟨by rfl, fun w0 hS0 => ?_⟩) (by assumption) ?_
        · go_simp
        try simp only [Act.put, lt, l0, ls]
        refine Till.take (i := 2) (oi := ⟨some 27, .move (.tmp 6), 3, "law.go:25", #[], none⟩) (v := .int .i64 (k : Int)) rfl (by kernel_rfl) (by kernel_rfl) (by kernel_rfl) (by kernel_rfl) (fun _ _ _ h => h) (Or.inl ⟨by rfl, fun w0 hS0 => ?_⟩) (by assumption) ?_
        · go_simp
        try simp only [Act.put, lt, l0, ls]
        refine Till.take (i := 3) (oi := ⟨some 28, .indexAddr 22 (.tmp 26) (.tmp 27), 0, "law.go:25", #[⟨1, .data⟩, ⟨2, .data⟩], none⟩) (v := .pointer (some ⟨g, o + k * 8, none⟩)) rfl (by kernel_rfl) (by kernel_rfl) (by kernel_rfl) (by kernel_rfl) (fun _ _ _ h => h) (Or.inl ⟨by rfl, fun w0 hS0 => ?_⟩) (by assumption) ?_
        · go_simp
        try simp only [Act.put, lt, l0, ls]
        refine Till.take (i := 4) (oi := ⟨some 29, .load 89 (.tmp 28), 89, "law.go:25", #[⟨3, .data⟩], none⟩) (v := chgV c) rfl (by kernel_rfl) (by kernel_rfl) (by kernel_rfl) (by kernel_rfl) (fun _ _ _ h => h) (Or.inl ⟨by rfl, fun w0 hS0 => ?_⟩) (by assumption) ?_
        · obtain ⟨c0, c1, c2, c3, c4, c5, c6, c7⟩ := HCc.out _ hS0; unfold chgV; go_simp
        try simp only [Act.put, lt, l0, ls]
        refine Till.two (i := 5) (j := 10) (o := ⟨some 30, .call ⟨.value (.func 41), #[.tmp 25, .tmp 29], #[31, 89]⟩, 97, "law.go:25", #[⟨0, .data⟩, ⟨4, .data⟩], none⟩) (o' := ⟨some 7, .alloc 31, 0, "law.go:25", #[], none⟩) (by kernel_rfl) rfl rfl (fun K hK => ?_) (fun K hK => ?_)
        · go_simp
          refine (HRD.out _ (hHeld)).mono ?_
          rintro e w6 ⟨r', L', rfl, R6, E6, l6, b6⟩
          have HR6 := Lib.hid R6
          have HN6 := Lib.hid (rs_one R6)
          have HE6 := Lib.hid E6
          have HB6 := Lib.hid (below_two (hHeld) b6)
          clear R6 E6 b6
          go_wp2_with fail
          refine hK.out _ _ (fun _ => HB6.out) ?_
          clear hK K
          have hHeld6 := HB6.out
          try simp only [Act.put, lt, l0, ls]
          refine Till.take (i := 6) (oi := ⟨some 24, .move (.tmp 30), 97, "law.go:25", #[⟨5, .data⟩], none⟩) (v := .tuple #[rvV r', .int .i64 (doR M c), .int .i64 (wrongM M c)]) rfl (by kernel_rfl) (by kernel_rfl) (by kernel_rfl) (by kernel_rfl) (fun _ _ _ h => h) (Or.inl ⟨by rfl, fun w0 hS0 => ?_⟩) (by assumption) ?_
          · go_simp
          try simp only [Act.put, lt, l0, ls]
          refine Till.take (i := 7) (oi := ⟨some 31, .extract (.tmp 24) 0, 31, "law.go:25", #[⟨6, .data⟩], none⟩) (v := rvV r') rfl (by kernel_rfl) (by kernel_rfl) (by kernel_rfl) (by kernel_rfl) (fun _ _ _ h => h) (Or.inl ⟨by rfl, fun w0 hS0 => ?_⟩) (by assumption) ?_
          · go_simp
          try simp only [Act.put, lt, l0, ls]
          refine Till.take (i := 8) (oi := ⟨some 32, .extract (.tmp 24) 1, 3, "law.go:25", #[⟨6, .data⟩, ⟨11, .gcOnly .lateStores⟩], none⟩) (v := .int .i64 (doR M c)) rfl (by kernel_rfl) (by kernel_rfl) (by kernel_rfl) (by kernel_rfl) (fun _ _ _ h => h) (Or.inl ⟨by rfl, fun w0 hS0 => ?_⟩) (by assumption) ?_
          · go_simp
          try simp only [Act.put, lt, l0, ls]
          refine Till.take (i := 9) (oi := ⟨some 33, .extract (.tmp 24) 2, 55, "law.go:25", #[⟨6, .data⟩, ⟨12, .gcOnly .lateStores⟩], none⟩) (v := .int .i64 (wrongM M c)) rfl (by kernel_rfl) (by kernel_rfl) (by kernel_rfl) (by kernel_rfl) (fun _ _ _ h => h) (Or.inl ⟨by rfl, fun w0 hS0 => ?_⟩) (by assumption) ?_
          · go_simp
          try simp only [Act.put, lt, l0, ls]
          refine Till.next (i := 10) (o := ⟨some 7, .alloc 31, 0, "law.go:25", #[], none⟩) (by kernel_rfl) rfl (fun K hK => ?_)
          go_simp
          refine hK.out _ _ (fun _ => HB6.out.alloc HB6.out.size _) ?_
          clear hK K
          have hHeld7 := HB6.out.alloc HB6.out.size (.cells nilsR 31)
          have HBt := Lib.hid (but_setRow (heap_alloc_new w6 (.cells nilsR 31)) #[r'.n, r'.l, r'.c, r'.d, r'.a, r'.f])
          try simp only [Act.put, lt, l0, ls]
          refine Till.next (i := 11) (o := ⟨none, .store 31 (.tmp 7) (.tmp 31), 0, "law.go:25", #[⟨10, .data⟩, ⟨7, .data⟩, ⟨5, .chain⟩, ⟨0, .phase⟩, ⟨1, .phase⟩, ⟨2, .phase⟩, ⟨3, .phase⟩, ⟨4, .phase⟩, ⟨5, .phase⟩, ⟨6, .phase⟩, ⟨7, .phase⟩, ⟨8, .textOnly .lateStores⟩, ⟨9, .textOnly .lateStores⟩, ⟨10, .phase⟩], none⟩) (by kernel_rfl) rfl (fun K hK => ?_)
          refine step_store_row rfl 31 (.tmp 7) (.tmp 31) rfl (w6.heap.size) #[r'.n, r'.l, r'.c, r'.d, r'.a, r'.f] rfl rfl 31 nilsR (heap_alloc_new _ _) sizeRef rfl HN6.out ?_
          refine hK.out _ _ (fun _ => HBt.out.from hHeld7 HB6.out.size hHeld7.size) ?_
          clear hK K
          try simp only [Act.put, lt, l0, ls]
          refine Till.next (i := 12) (o := ⟨some 8, .assign (.tmp 32), 3, "law.go:25", #[⟨8, .data⟩, ⟨11, .chain⟩, ⟨0, .phase⟩, ⟨1, .phase⟩, ⟨2, .phase⟩, ⟨3, .phase⟩, ⟨4, .phase⟩, ⟨5, .phase⟩, ⟨6, .phase⟩, ⟨7, .phase⟩, ⟨8, .phase⟩, ⟨9, .textOnly .lateStores⟩, ⟨10, .phase⟩, ⟨11, .phase⟩], none⟩) (by kernel_rfl) rfl (fun K hK => ?_)
          go_simp
          refine hK.out _ _ (fun _ => HBt.out.from hHeld7 HB6.out.size hHeld7.size) ?_
          clear hK K
          try simp only [Act.put, lt, l0, ls]
          refine Till.next (i := 13) (o := ⟨some 9, .assign (.tmp 33), 55, "law.go:25", #[⟨9, .data⟩, ⟨12, .chain⟩, ⟨0, .phase⟩, ⟨1, .phase⟩, ⟨2, .phase⟩, ⟨3, .phase⟩, ⟨4, .phase⟩, ⟨5, .phase⟩, ⟨6, .phase⟩, ⟨7, .phase⟩, ⟨8, .phase⟩, ⟨9, .phase⟩, ⟨10, .phase⟩, ⟨11, .phase⟩, ⟨12, .phase⟩], none⟩) (by kernel_rfl) rfl (fun K hK => ?_)
          go_simp
          refine hK.out _ _ (fun q => absurd rfl q) ?_
          clear hK K
          try simp only [Act.put, lt, l0, ls]
          refine Till.done (by kernel_rfl) ?_
          go_wp2_with fail
          go_meet
          exact ⟨_, rfl, r', L', setRow_heap _ _ _ _ _ _ (heap_alloc_new _ _), HBt.out.rs (heap_alloc_new _ _) (HR6.out.keep ((Below.refl _ _).alloc (Nat.le_refl _) _)), HE6.out, l6, HBt.out.from hHeld7 HB6.out.size hHeld7.size, HB6.out.size⟩
        · go_simp
          refine hK.out _ _ (fun _ => hHeld.alloc hHeld.size _) ?_
          clear hK K
          have hHeld7 := hHeld.alloc hHeld.size (.cells nilsR 31)
          have HQ7 := Lib.hid (heap_alloc_new w5.drew (.cells nilsR 31))
          try simp only [Act.put, lt, l0, ls]
          refine Till.next (i := 5) (o := ⟨some 30, .call ⟨.value (.func 41), #[.tmp 25, .tmp 29], #[31, 89]⟩, 97, "law.go:25", #[⟨0, .data⟩, ⟨4, .data⟩], none⟩) (by kernel_rfl) rfl (fun K hK => ?_)
          go_simp
          refine (HRD.out _ (hHeld7)).mono ?_
          rintro e w6 ⟨r', L', rfl, R6, E6, l6, b6⟩
          have HR6 := Lib.hid R6
          have HN6 := Lib.hid (rs_one R6)
          have HE6 := Lib.hid E6
          have HB6 := Lib.hid (below_two (hHeld7) b6)
          have HQ8 := Lib.hid (box_keep2 HQ7.out b6)
          have HBt := Lib.hid (but_setRow HQ8.out #[r'.n, r'.l, r'.c, r'.d, r'.a, r'.f])
          clear R6 E6 b6
          go_wp2_with fail
          refine hK.out _ _ (fun _ => HB6.out) ?_
          clear hK K
          have hHeld6 := HB6.out
          try simp only [Act.put, lt, l0, ls]
          refine Till.take (i := 6) (oi := ⟨some 24, .move (.tmp 30), 97, "law.go:25", #[⟨5, .data⟩], none⟩) (v := .tuple #[rvV r', .int .i64 (doR M c), .int .i64 (wrongM M c)]) rfl (by kernel_rfl) (by kernel_rfl) (by kernel_rfl) (by kernel_rfl) (fun _ _ _ h => h) (Or.inl ⟨by rfl, fun w0 hS0 => ?_⟩) (by assumption) ?_
          · go_simp
          try simp only [Act.put, lt, l0, ls]
          refine Till.take (i := 7) (oi := ⟨some 31, .extract (.tmp 24) 0, 31, "law.go:25", #[⟨6, .data⟩], none⟩) (v := rvV r') rfl (by kernel_rfl) (by kernel_rfl) (by kernel_rfl) (by kernel_rfl) (fun _ _ _ h => h) (Or.inl ⟨by rfl, fun w0 hS0 => ?_⟩) (by assumption) ?_
          · go_simp
          try simp only [Act.put, lt, l0, ls]
          refine Till.take (i := 8) (oi := ⟨some 32, .extract (.tmp 24) 1, 3, "law.go:25", #[⟨6, .data⟩, ⟨11, .gcOnly .lateStores⟩], none⟩) (v := .int .i64 (doR M c)) rfl (by kernel_rfl) (by kernel_rfl) (by kernel_rfl) (by kernel_rfl) (fun _ _ _ h => h) (Or.inl ⟨by rfl, fun w0 hS0 => ?_⟩) (by assumption) ?_
          · go_simp
          try simp only [Act.put, lt, l0, ls]
          refine Till.take (i := 9) (oi := ⟨some 33, .extract (.tmp 24) 2, 55, "law.go:25", #[⟨6, .data⟩, ⟨12, .gcOnly .lateStores⟩], none⟩) (v := .int .i64 (wrongM M c)) rfl (by kernel_rfl) (by kernel_rfl) (by kernel_rfl) (by kernel_rfl) (fun _ _ _ h => h) (Or.inl ⟨by rfl, fun w0 hS0 => ?_⟩) (by assumption) ?_
          · go_simp
          try simp only [Act.put, lt, l0, ls]
          refine Till.next (i := 11) (o := ⟨none, .store 31 (.tmp 7) (.tmp 31), 0, "law.go:25", #[⟨10, .data⟩, ⟨7, .data⟩, ⟨5, .chain⟩, ⟨0, .phase⟩, ⟨1, .phase⟩, ⟨2, .phase⟩, ⟨3, .phase⟩, ⟨4, .phase⟩, ⟨5, .phase⟩, ⟨6, .phase⟩, ⟨7, .phase⟩, ⟨8, .textOnly .lateStores⟩, ⟨9, .textOnly .lateStores⟩, ⟨10, .phase⟩], none⟩) (by kernel_rfl) rfl (fun K hK => ?_)
          refine step_store_row rfl 31 (.tmp 7) (.tmp 31) rfl (w5.drew.heap.size) #[r'.n, r'.l, r'.c, r'.d, r'.a, r'.f] rfl rfl 31 nilsR (HQ8.out) sizeRef rfl HN6.out ?_
          refine hK.out _ _ (fun _ => HBt.out.from hHeld6 hHeld.size hHeld6.size) ?_
          clear hK K
          try simp only [Act.put, lt, l0, ls]
          refine Till.next (i := 12) (o := ⟨some 8, .assign (.tmp 32), 3, "law.go:25", #[⟨8, .data⟩, ⟨11, .chain⟩, ⟨0, .phase⟩, ⟨1, .phase⟩, ⟨2, .phase⟩, ⟨3, .phase⟩, ⟨4, .phase⟩, ⟨5, .phase⟩, ⟨6, .phase⟩, ⟨7, .phase⟩, ⟨8, .phase⟩, ⟨9, .textOnly .lateStores⟩, ⟨10, .phase⟩, ⟨11, .phase⟩], none⟩) (by kernel_rfl) rfl (fun K hK => ?_)
          go_simp
          refine hK.out _ _ (fun _ => HBt.out.from hHeld6 hHeld.size hHeld6.size) ?_
          clear hK K
          try simp only [Act.put, lt, l0, ls]
          refine Till.next (i := 13) (o := ⟨some 9, .assign (.tmp 33), 55, "law.go:25", #[⟨9, .data⟩, ⟨12, .chain⟩, ⟨0, .phase⟩, ⟨1, .phase⟩, ⟨2, .phase⟩, ⟨3, .phase⟩, ⟨4, .phase⟩, ⟨5, .phase⟩, ⟨6, .phase⟩, ⟨7, .phase⟩, ⟨8, .phase⟩, ⟨9, .phase⟩, ⟨10, .phase⟩, ⟨11, .phase⟩, ⟨12, .phase⟩], none⟩) (by kernel_rfl) rfl (fun K hK => ?_)
          go_simp
          refine hK.out _ _ (fun q => absurd rfl q) ?_
          clear hK K
          try simp only [Act.put, lt, l0, ls]
          refine Till.done (by kernel_rfl) ?_
          go_wp2_with fail
          go_meet
          exact ⟨_, rfl, r', L', setRow_heap _ _ _ _ _ _ HQ8.out, HBt.out.rs HQ8.out HR6.out, HE6.out, l6, HBt.out.from hHeld6 hHeld.size hHeld6.size, hHeld.size⟩
      case rest =>
        obtain ⟨B7, rfl, r', L', hb7, R7, E7, l7, bel7, ge7⟩ := hcut
        have HN7 := Lib.hid (rs_one R7)
        have HR7 := Lib.hid R7
        have HE7 := Lib.hid E7
        have HL7 := Lib.hid hb7
        have HBL := Lib.hid bel7
        have hb5 := box_keep2 HB5.out bel7
        have HX5 := Lib.hid hb5
        have HQ7 := Lib.hid (box_keep2 HQ5.out bel7)
        have HBt := Lib.hid (but_setRow hb5 #[r'.n, r'.l, r'.c, r'.d, r'.a, r'.f])
        clear R7 E7 hb7 bel7 hb5
        go_wp2_with (first
          | (refine wpList_load_row rfl 31 (.tmp 7) rfl B7 rfl _ _ _ _ HL7.out Tryz.underlying31 rfl (by rw [sizeRef]; rfl) ?_)
          | (refine wpList_store_row rfl 31 (.tmp 5) (.tmp 34) rfl B5 #[r'.n, r'.l, r'.c, r'.d, r'.a, r'.f] rfl rfl 31 _ HX5.out sizeRef rfl HN7.out ?_))
        go_roundw
        case rel =>
          refine ⟨k + 1, L', r', by omega, by simp, by omega, Lib.hid ⟨?_, ?_, ?_⟩, ?_, setRow_heap _ _ _ _ _ _ HX5.out⟩
          · rw [HK.out]; exact (HH5.out.keep HBL.out).but HBt.out HX5.out (by have := HLT.out; omega)
          · rw [HK.out]; exact HBt.out.rs HX5.out HR7.out
          · rw [HK.out]; exact HE7.out
          · exact (HBt.out.block _ (heap_lt HQ7.out) (by have := HLT.out; omega)).trans HQ7.out
        case measure => simp [intOf]; omega
    · have d1 : decide ((k : Int) < (cs.length : Int)) = false := decide_eq_false (by omega)
      obtain rfl : k = cs.length := by omega
      have HTK := Lib.hid (show Twin w p (runM cs newM) L r wr from by have := HT.out; rwa [List.take_length] at this)
      have HF8 := Lib.hid (show ∀ W, Below wr.heap.size wr W → W.cell? ⟨B5, 0, none⟩ = some r.n ∧ W.cell? ⟨B5, 1, none⟩ = some r.l ∧ W.cell? ⟨B5, 2, none⟩ = some r.c ∧ W.cell? ⟨B5, 3, none⟩ = some r.d ∧ W.cell? ⟨B5, 4, none⟩ = some r.a ∧ W.cell? ⟨B5, 5, none⟩ = some r.f from fun W hW => by
        have q := box_keep2 HBX.out hW
        refine ⟨?_, ?_, ?_, ?_, ?_, ?_⟩ <;> (rw [cell_of_row _ _ _ _ _ _ q]; rfl))
      have HN8 := Lib.hid (rs_one HT.out.rs)
      go_upto_region 8 with fail
      refine Till.region (z := 3) (S := fun w' => Below wr.heap.size wr w') (by kernel_rfl) ((Below.refl _ _).drew) (fun hHeld => ?_)
      have HB8 := Lib.hid hHeld
      have HQ8 := Lib.hid (box_keep2 HQ.out hHeld)
      have HBt := Lib.hid (but_setRow HQ8.out #[r.n, r.l, r.c, r.d, r.a, r.f])
      refine Till.take (i := 0) (oi := ⟨some 35, .move (.tmp 4), 25, "law.go:28", #[], none⟩) (v := .pointer (some ⟨p, 0, none⟩)) rfl (by kernel_rfl) (by kernel_rfl) (by kernel_rfl) (by kernel_rfl) (fun _ _ _ h => h) (Or.inl ⟨by rfl, fun w0 hS0 => ?_⟩) (by assumption) ?_
      · go_simp
      try simp only [Act.put, lt, l0, ls]
      refine Till.take (i := 1) (oi := ⟨some 36, .load 31 (.tmp 5), 31, "law.go:28", #[⟨2, .gcOnly .lateStores⟩], none⟩) (v := .agg #[r.n, r.l, r.c, r.d, r.a, r.f]) rfl (by kernel_rfl) (by kernel_rfl) (by kernel_rfl) (by kernel_rfl) (fun _ _ _ h => h) (Or.inl ⟨by rfl, fun w0 hS0 => ?_⟩) (by assumption) ?_
      · obtain ⟨c0, c1, c2, c3, c4, c5⟩ := HF8.out _ hS0; go_simp
      try simp only [Act.put, lt, l0, ls]
      refine Till.next (i := 2) (o := ⟨some 2, .assign (.tmp 35), 25, "law.go:28", #[⟨0, .data⟩, ⟨0, .phase⟩, ⟨1, .textOnly .lateStores⟩], none⟩) (by kernel_rfl) rfl (fun K hK => ?_)
      go_simp
      refine hK.out _ _ (fun _ => HB8.out) ?_
      clear hK K
      try simp only [Act.put, lt, l0, ls]
      refine Till.next (i := 3) (o := ⟨none, .store 31 (.tmp 3) (.tmp 36), 0, "law.go:28", #[⟨1, .data⟩, ⟨2, .chain⟩, ⟨0, .phase⟩, ⟨1, .phase⟩, ⟨2, .phase⟩], none⟩) (by kernel_rfl) rfl (fun K hK => ?_)
      refine step_store_row rfl 31 (.tmp 3) (.tmp 36) rfl w.heap.size #[r.n, r.l, r.c, r.d, r.a, r.f] rfl rfl 31 nilsR HQ8.out sizeRef rfl HN8.out ?_
      refine hK.out _ _ (fun q => absurd rfl q) ?_
      clear hK K
      try simp only [Act.put, lt, l0, ls]
      refine Till.done (by kernel_rfl) ?_
      go_wp2_with fail
      refine bodyPost_ret (v := .tuple #[.pointer (some ⟨p, 0, none⟩), .agg #[r.n, r.l, r.c, r.d, r.a, r.f]]) ?_ rfl ⟨p, r, L, rfl, ?_, hL⟩
      · exact results_made rfl rfl (setRow_heap _ _ _ _ _ _ HQ8.out) rfl
      · exact ⟨(HTK.out.fs.keep HB8.out).but HBt.out HQ8.out (Nat.le_refl _), HBt.out.rs HQ8.out (HTK.out.rs.keep HB8.out), HTK.out.rel⟩
end Go.Proofs.YtknfhphhcnbndaaGreatDoor.V

namespace Go.Proofs.YtknfhphhcnbndaaGreatDoor.V
open List renaming setIfInBounds_toArray → lt, set_cons_zero → l0, set_cons_succ → ls
open Go.RowKit

theorem has_devices {w0 w : World} {p : Nat} {M : List Nd} (h : Has w0 p M w) (hn : 0 < M.length) (hM : M.length ≤ 1000000) :
    Calls Tryz.prog 42 #[.pointer (some ⟨p, 0, none⟩)] w fun e w' => ∃ v, e = .returned v ∧ w'.ownsRow w.heap.size 3 1 v (devL M 0).length (ints (devL M 0)) ∧ Below w.heap.size w w' := by
  obtain ⟨h, rfl, rfl, H, hb, hf⟩ := h
  have hml : h.M.length = h.X.length := List.length_map ..
  exact devices_any h w H (by omega) (by omega)
theorem has_node {w0 w : World} {p : Nat} {M : List Nd} {i : Nat} {n : Nd} (h : Has w0 p M w) (hn : M[i]? = some n) :
    Calls Tryz.prog 30 #[.pointer (some ⟨p, 0, none⟩), .int .i64 (i : Int)] w fun e w' => e = .returned (.tuple #[knownV n, .int .i64 0]) ∧ Below w.heap.size w w' := by
  obtain ⟨h, rfl, hM, H, hb, hf⟩ := h
  obtain ⟨x, hx, hxn⟩ := fs_at (h := h) (k := i) (n := n) (by rw [hM]; exact hn)
  subst hxn
  exact node_get h i x w H hx

theorem ints_at {l : List Int} {j : Nat} {x : Int} (h : l[j]? = some x) : (ints l)[j]? = some (.int .i64 x) := by
  unfold ints
  rw [List.getElem?_map, h]
  rfl
end Go.Proofs.YtknfhphhcnbndaaGreatDoor.V
