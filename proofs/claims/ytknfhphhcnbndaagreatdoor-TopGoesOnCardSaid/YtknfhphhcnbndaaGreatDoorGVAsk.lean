/-
  What FS.Do and New make: the model of a file system as a list of nodes, and that the program keeps it. Conditions: the file system is of at most 1000000 entries and links.
  What FS.Node returns. Conditions: the file system lies in memory.
  What New makes; that the laws' own first question is answered. Conditions: none.
  Devices in the model: each device's nodes are numbered on, and its first is in the list of firsts. Conditions: none.
  The reference's file system in memory: six slices that hold the model's nodes and a list of entries; what its small functions return. Conditions: each fact's own.
  append of a row that is there already, onto an own row, in whatever place of a walk; what two appends and a store into a box leave. Conditions: each fact's own.
  What FS.List, Link, Node, Over, Up return, of whatever number: of the model's nodes. Conditions: the file system lies in memory; at most 1000000 entries a directory.
-/
import Derived.Test.YtknfhphhcnbndaaGreatDoorGVCarry
import Derived.Deep.MidRow
import Derived.Laws.ResultCell
import Derived.Deep.QuietTactic
import Derived.BigQuiet
import Derived.Laws.AppendOwnNone
import Derived.Deep.RegionLaw
import Derived.Deep.CutRange
import Derived.Lib.LazyBuf
set_option linter.unusedSimpArgs false
set_option linter.unusedVariables false
namespace Go.Proofs.YtknfhphhcnbndaaGreatDoor.V
open Go.RowKit

/-- The node of that number, in a list of nodes. -/
def atM (M : List Nd) (i : Int) : Option Nd := if 0 ≤ i ∧ i < (M.length : Int) then M[i.toNat]? else none
theorem ndAt_M (h : Fsh) (i : Int) : ndAt h i = atM h.M i := by
  unfold ndAt atM Fsh.M
  rw [List.length_map]
  split
  · rw [List.getElem?_map]
  · rfl
theorem ndAt_fun (h : Fsh) : ndAt h = atM h.M := funext (ndAt_M h)

/-- What a change makes, if nothing is wrong with it. -/
def carryM (M : List Nd) (c : Chg) : List Nd × Int :=
  if c.kind = 0 then (builtM M c.at_.toNat c.name (dirNd (c.a % 4096) c.at_) ((atM M c.at_).elim 0 (·.dev)), (M.length : Int))
  else if c.kind = 1 then (builtM M c.at_.toNat c.name (fileNd (c.a % 4096) c.n (blkOf c.n)) ((atM M c.at_).elim 0 (·.dev)), (M.length : Int))
  else if c.kind = 2 then ((M.modify c.at_.toNat (addEnt c.name c.to)).modify (if (atM M c.to).elim 0 (·.kind) = 2 then c.at_.toNat else c.to.toNat) moreLinks, 0)
  else if c.kind = 3 then (builtM M c.at_.toNat c.name (linkNd c.text) ((atM M c.at_).elim 0 (·.dev)), (M.length : Int))
  else if c.kind = 7 then (coveredM M c.to.toNat c.a ((atM M c.to).elim 0 (·.up)), (M.length : Int))
  else (M.modify c.to.toNat (setNd c), 0)
def wrongM (M : List Nd) (c : Chg) : Int := refuseE (atM M) M.length c
def doM (M : List Nd) (c : Chg) : List Nd := if wrongM M c = 0 then (carryM M c).1 else M
def doR (M : List Nd) (c : Chg) : Int := if wrongM M c = 0 then (carryM M c).2 else 0

/-- All is small: what the walks ask. -/
def Small (M : List Nd) (k : Nat) : Prop := M.length ≤ 300 ∧ ∀ n ∈ M, 0 ≤ n.links ∧ n.links ≤ 2 + (k : Int) ∧ n.ents.length ≤ k

theorem atM_some {M : List Nd} {i : Int} {n : Nd} (h : atM M i = some n) : ∃ k : Nat, i = (k : Int) ∧ M[k]? = some n := by
  unfold atM at h
  split at h
  · exact ⟨i.toNat, by omega, h⟩
  · cases h
theorem fs_at {h : Fsh} {k : Nat} {n : Nd} (hn : h.M[k]? = some n) : ∃ x, h.X[k]? = some x ∧ x.1 = n := by
  unfold Fsh.M at hn
  rw [List.getElem?_map] at hn
  exact Option.map_eq_some_iff.1 hn

theorem wrong_cases {M : Int → Option Nd} {len : Nat} {c : Chg} (h : refuseE M len c = 0) :
    (∃ x, M c.at_ = some x ∧ (c.kind = 0 ∨ (c.kind = 1 ∧ 0 ≤ c.n) ∨ c.kind = 3) ∧ len < 300) ∨ (c.kind = 2 ∧ ∃ x y, M c.at_ = some x ∧ M c.to = some y ∧ y.kind ≠ 2) ∨ (c.kind = 7 ∧ len < 300 ∧ ∃ y, M c.to = some y) ∨ ((c.kind = 4 ∨ c.kind = 5 ∨ (c.kind = 6 ∧ 0 ≤ c.a ∧ c.a ≤ 2) ∨ c.kind = 8) ∧ ∃ y, M c.to = some y) := by
  unfold refuseE at h
  split at h
  · cases h
  · rename_i hno
    unfold baseE at h hno
    split at h
    · rename_i hk
      rw [if_pos hk] at hno
      have h0 := h
      unfold entryE at h
      cases hx : M c.at_ with
      | none => rw [hx] at h; cases h
      | some x =>
        rw [hx] at h
        dsimp only at h
        split at h
        · split at h
          · split at h
            · cases h
            · by_cases k2 : c.kind = 2
              · rw [if_pos k2] at h
                unfold shareE at h
                cases hy : M c.to with
                | none => rw [hy] at h; cases h
                | some y =>
                  rw [hy] at h
                  dsimp only at h
                  split at h
                  · cases h
                  · rename_i hyk
                    exact .inr (.inl ⟨k2, x, y, rfl, rfl, hyk⟩)
              · rw [if_neg k2] at h
                refine .inl ⟨x, rfl, ?_, ?_⟩
                · split at h
                  · cases h
                  · rename_i q
                    rcases (show c.kind = 0 ∨ c.kind = 1 ∨ c.kind = 3 from by omega) with e | e | e
                    · exact .inl e
                    · exact .inr (.inl ⟨e, by omega⟩)
                    · exact .inr (.inr e)
                · apply Classical.byContradiction
                  intro hl
                  refine hno ⟨h0, ?_, by omega⟩
                  unfold makesB
                  rcases (show c.kind = 0 ∨ c.kind = 1 ∨ c.kind = 3 from by omega) with e | e | e <;> rw [e] <;> rfl
          · cases h
        · cases h
    · rename_i hk
      rw [if_neg hk] at hno
      split at h
      · rename_i hk2
        rw [if_pos hk2] at hno
        have h0 := h
        unfold nodeE at h
        cases hy : M c.to with
        | none => rw [hy] at h; cases h
        | some y =>
          rw [hy] at h
          dsimp only at h
          split at h
          · cases h
          · rename_i q
            by_cases k7 : c.kind = 7
            · refine .inr (.inr (.inl ⟨k7, ?_, y, rfl⟩))
              apply Classical.byContradiction
              intro hl
              exact hno ⟨h0, by unfold makesB; rw [k7]; rfl, by omega⟩
            · exact .inr (.inr (.inr ⟨by omega, y, rfl⟩))
      · cases h

theorem small_bd {h : Fsh} {k : Nat} (hS : Small h.M k) (hk : k ≤ 900000) : ∀ x ∈ h.X, (0 ≤ x.1.links ∧ x.1.links ≤ 1000000) ∧ x.1.ents.length ≤ 1000000 := by
  intro x hx
  have := hS.2 x.1 (List.mem_map_of_mem hx)
  omega

set_option maxHeartbeats 1000000 in
theorem carry_any (h : Fsh) (c : Chg) (k : Nat) (w : World) (H : Fs h w) (hS : Small h.M k) (hk : k ≤ 900000) (hn : 0 < h.X.length) (hc : -9223372036854775808 ≤ c.n ∧ c.n ≤ 9223372036854775807) (hw : wrongM h.M c = 0) :
    Calls Tryz.prog 80 #[.pointer (some ⟨h.p, 0, none⟩), chgV c] w fun e w' => e = .returned (.int .i64 (carryM h.M c).2) ∧
      ∃ h', h'.p = h.p ∧ h'.M = (carryM h.M c).1 ∧ Fs h' w' ∧ Grew h h' w w' := by
  have hB := small_bd hS hk
  have hml : h.M.length = h.X.length := List.length_map ..
  have hX : h.X.length ≤ 1000000 := by have := hS.1; omega
  rcases wrong_cases hw with ⟨n, hx, hk3, hl⟩ | ⟨k2, n, m, hx, hy, hyk⟩ | ⟨k7, hl, m, hy⟩ | ⟨hks, m, hy⟩
  · obtain ⟨i, hi, hxi⟩ := atM_some hx
    obtain ⟨x, hxx, rfl⟩ := fs_at hxi
    obtain ⟨b1, b2⟩ := hB x (List.mem_of_getElem? hxx)
    have hd : (atM h.M c.at_).elim 0 (·.dev) = x.1.dev := by rw [hx]; rfl
    have hit : c.at_.toNat = i := by omega
    rcases hk3 with k0 | ⟨k1, hn0⟩ | k3
    · have := carry_0 h i x c w H k0 hi hxx hX b1 b2
      unfold carryM
      rw [if_pos k0, hd, hit, hml]
      exact this
    · have := carry_1 h i x c w H k1 hi hxx hX b1 b2 hn0 hc.2
      unfold carryM
      rw [if_neg (by omega), if_pos k1, hd, hit, hml]
      exact this
    · have := carry_3 h i x c w H k3 hi hxx hX b1 b2
      unfold carryM
      rw [if_neg (by omega), if_neg (by omega), if_neg (by omega), if_pos k3, hd, hit, hml]
      exact this
  · obtain ⟨i, hi, hxi⟩ := atM_some hx
    obtain ⟨x, hxx, rfl⟩ := fs_at hxi
    obtain ⟨b1, b2⟩ := hB x (List.mem_of_getElem? hxx)
    obtain ⟨j, hj, hyj⟩ := atM_some hy
    obtain ⟨y, hyy, rfl⟩ := fs_at hyj
    obtain ⟨b3, b4⟩ := hB y (List.mem_of_getElem? hyy)
    have hd : (atM h.M c.to).elim 0 (·.kind) = y.1.kind := by rw [hy]; rfl
    have := carry_2 h i j x y c w H k2 hi hxx hj hyy _ rfl b3 b1 b2
    unfold carryM
    rw [if_neg (by omega), if_neg (by omega), if_pos k2, hd, show c.at_.toNat = i by omega, show c.to.toNat = j by omega, hj]
    exact this
  · obtain ⟨j, hj, hyj⟩ := atM_some hy
    obtain ⟨y, hyy, rfl⟩ := fs_at hyj
    have hd : (atM h.M c.to).elim 0 (·.up) = y.1.up := by rw [hy]; rfl
    have := carry_7 h j y c w H k7 hj hyy hX
    unfold carryM
    rw [if_neg (by omega), if_neg (by omega), if_neg (by omega), if_neg (by omega), if_pos k7, hd, show c.to.toNat = j by omega, hml]
    exact this
  · obtain ⟨j, hj, hyj⟩ := atM_some hy
    obtain ⟨y, hyy, rfl⟩ := fs_at hyj
    have := carry_set h j y c w H hks hj hyy
    unfold carryM
    rw [if_neg (by omega), if_neg (by omega), if_neg (by omega), if_neg (by omega), if_neg (by omega), show c.to.toNat = j by omega]
    exact this

def DoPost (h : Fsh) (c : Chg) (w w' : World) : Prop := ∃ h', h'.p = h.p ∧ h'.M = doM h.M c ∧ Fs h' w' ∧ Grew h h' w w'

set_option maxRecDepth 100000 in
set_option maxHeartbeats 4000000 in
theorem do_any (h : Fsh) (c : Chg) (k : Nat) (w : World) (H : Fs h w) (hS : Small h.M k) (hk : k ≤ 900000) (hn : 0 < h.X.length) (hc : -9223372036854775808 ≤ c.n ∧ c.n ≤ 9223372036854775807) :
    Calls Tryz.prog 35 #[.pointer (some ⟨h.p, 0, none⟩), chgV c] w fun e w' => e = .returned (.tuple #[.int .i64 (doR h.M c), .int .i64 (wrongM h.M c)]) ∧ DoPost h c w w' := by
  have HBa := Lib.hid (show ∀ o, Below w.heap.size w (w.alloc o) from fun o => (Below.refl _ _).alloc (Nat.le_refl _) _)
  have HK := Lib.hid (show ∀ W, Below w.heap.size w W → Fs h W from fun W hb => H.keep hb)
  have hml : h.M.length = h.X.length := List.length_map ..
  have HR := Lib.hid (refuse_any h c (w.alloc (chgBox c)) (H.keep (HBa.out _)) hn (fun x hx => (small_bd hS hk x hx).2))
  have HWe := Lib.hid (show refuseE (ndAt h) h.X.length c = wrongM h.M c from by unfold wrongM; rw [ndAt_fun, hml])
  have HC := Lib.hid (fun (W : World) (hb : Below w.heap.size w W) (hw : wrongM h.M c = 0) => carry_any h c k W (HK.out W hb) hS hk hn hc hw)
  have HCV := Lib.hid (show chgV c = .agg #[.int .i64 c.kind, .int .i64 c.at_, .int .i64 c.to, .string c.name, .string c.text, .int .i64 c.a, .int .i64 c.b, .int .i64 c.n] from rfl)
  clear hS hk hn hc hml H
  rw [HCV.out]
  obtain ⟨e0, he0⟩ : ∃ e0, wrongM h.M c = e0 := ⟨_, rfl⟩
  have HE := Lib.hid he0
  rw [he0]
  by_cases h0 : e0 = 0
  · subst h0
    have HD := Lib.hid (show doR h.M c = (carryM h.M c).2 ∧ doM h.M c = (carryM h.M c).1 from ⟨by unfold doR; rw [if_pos he0], by unfold doM; rw [if_pos he0]⟩)
    rw [HD.out.1]
    clear he0
    go_enter Tryz.func35, Tryz.ntmps35
    go_wp2_with (first
      | (go_at_call 79; rw [← HCV.out]; refine HR.out.mono ?_; rintro e w2 ⟨rfl, hb2⟩; rw [HWe.out, HE.out]; have HB2 := Lib.hid (below_two (HBa.out _) hb2); obtain ⟨q0, q1, q2, q3, q4, q5, q6, q7⟩ := chg_cells (box_keep hb2); clear hb2)
      | (go_at_call 80; rw [← HCV.out]; refine (HC.out _ HB2.out HE.out).mono ?_; rintro e w3 ⟨rfl, h', hp', hm', H3, G3⟩; have R := Lib.hid (show DoPost h c w w3 from ⟨h', hp', hm'.trans HD.out.2.symm, H3, (Grew.of_below HB2.out).trans G3⟩); clear hp' hm' H3 G3))
    go_ret2
    exact ⟨rfl, R.out⟩
  · have b0 : (e0 != 0) = true := by simp [h0]
    have HD := Lib.hid (show doR h.M c = 0 ∧ doM h.M c = h.M from ⟨by unfold doR; rw [if_neg (by rw [he0]; exact h0)], by unfold doM; rw [if_neg (by rw [he0]; exact h0)]⟩)
    rw [HD.out.1]
    clear he0 h0
    go_enter Tryz.func35, Tryz.ntmps35
    go_wp2_with (go_at_call 79; rw [← HCV.out]; refine HR.out.mono ?_; rintro e w2 ⟨rfl, hb2⟩; rw [HWe.out, HE.out]; have HB2 := Lib.hid (below_two (HBa.out _) hb2); clear hb2)
    go_ret2
    exact ⟨rfl, h, rfl, HD.out.2.symm, HK.out _ HB2.out, Grew.of_below HB2.out⟩
end Go.Proofs.YtknfhphhcnbndaaGreatDoor.V

namespace Go.Proofs.YtknfhphhcnbndaaGreatDoor.V
open Go.RowKit

def knownV (n : Nd) : Value := .agg n.known.toArray
theorem known_at (n : Nd) (ev : Value) {j : Nat} {u : Value} (h : n.known[j]? = some u) : (n.cells ev)[j]? = some u ∧ j < 13 := by
  have hj : j < 13 := (List.getElem?_eq_some_iff.1 h).1
  refine ⟨?_, hj⟩
  rw [← h]
  match j, hj with
  | 0, _ | 1, _ | 2, _ | 3, _ | 4, _ | 5, _ | 6, _ | 7, _ | 8, _ | 9, _ | 10, _ | 11, _ | 12, _ => rfl
theorem known_one (n : Nd) : n.known.toArray.all (·.oneCell') = true := all_oneCell_toArray (fun u hu => by
  simp only [Nd.known, List.mem_cons, List.mem_nil_iff, or_false] at hu
  rcases hu with rfl | rfl | rfl | rfl | rfl | rfl | rfl | rfl | rfl | rfl | rfl | rfl | rfl
  all_goals rfl)

set_option maxRecDepth 100000 in
set_option maxHeartbeats 4000000 in
theorem node_get (h : Fsh) (i : Nat) (x : Nd × Value) (w : World) (H : Fs h w) (hx : h.X[i]? = some x) :
    Calls Tryz.prog 30 #[.pointer (some ⟨h.p, 0, none⟩), .int .i64 (i : Int)] w fun e w' => e = .returned (.tuple #[knownV x.1, .int .i64 0]) ∧ Below w.heap.size w w' := by
  have hil : i < h.X.length := (List.getElem?_eq_some_iff.1 hx).1
  obtain ⟨g, cap, hv, _, _⟩ := H.slice (by omega)
  have hp : h.p < w.heap.size := H.lt (.inl rfl)
  have HK := Lib.hid (show ∀ W, Below w.heap.size w W → Fs h W from fun W hb => H.keep hb)
  have HBa := Lib.hid (show ∀ o, Below w.heap.size w (w.alloc o) from fun o => (Below.refl _ _).alloc (Nat.le_refl _) _)
  have HR := Lib.hid (show ∀ W, Below w.heap.size w W → W.rangeAt g (i * 17) x.1.known from fun W hb j v hj => (H.keep hb).at_node hv hx (show j < 17 from by have := (known_at x.1 x.2 hj).2; omega) (known_at x.1 x.2 hj).1)
  have c0 : w.cell? ⟨h.p, 0, none⟩ = some (.slice (some ⟨g, 0, none⟩) h.X.length cap) := by rw [← hv]; exact H.cell0
  have hhas : hasB h (i : Int) = true := by simp [hasB, hil]
  clear hv H
  go_enter Tryz.func30, Tryz.ntmps30
  go_wp2_with (first
    | (go_at_call 65; refine (has_any h (i : Int) _ (HK.out _ (HBa.out _)) (by omega)).mono ?_; rintro e w2 ⟨rfl, hw⟩; subst hw; rw [hhas])
    | (refine wpList_load_mid rfl 66 (.tmp 17) rfl g (i * 17) rfl x.1.known _ (HR.out _ (HBa.out _)) Tryz.underlying66 rfl sizeKnown ?_)
    | (refine wpList_store_row rfl 66 (.tmp 4) (.tmp 18) rfl w.heap.size x.1.known.toArray rfl rfl _ _ (heap_alloc_new _ _) (by rw [sizeKnown]; rfl) rfl (known_one x.1) ?_; rw [World.setRow_alloc_new]))
  refine bodyPost_ret (v := .tuple #[knownV x.1, .int .i64 0]) ?_ rfl ⟨rfl, HBa.out _⟩
  rw [results_cell_tmp Tryz.results30]
  have hl := run_loadVar_row (P := Tryz.prog) (w.alloc (.cells x.1.known.toArray 66)) w.heap.size 66 66 x.1.known.toArray (0, 0) _ (heap_alloc_new _ _) Tryz.underlying66 rfl (by rw [sizeKnown]; rfl)
  simp [asAddr, hl, Result.andThen, knownV]
end Go.Proofs.YtknfhphhcnbndaaGreatDoor.V

namespace Go.Proofs.YtknfhphhcnbndaaGreatDoor.V
open Go.RowKit

def newM : List Nd := [addedNd (dirNd 493 0) 1 []]
/-- A file system that was made behind w0, of the nodes M. -/
def Has (w0 : World) (p : Nat) (M : List Nd) (w : World) : Prop := ∃ h : Fsh, h.p = p ∧ h.M = M ∧ Fs h w ∧ Below w0.heap.size w0 w ∧ ∀ k, h.foot k → w0.heap.size ≤ k

theorem fs_new (w : World) : Fs ⟨w.heap.size, .slice none 0 0, []⟩ (w.alloc (.cells #[.slice none 0 0] 137)) :=
  ⟨heap_alloc_new _ _, World.ownsRow_nil _ _ _ _, fun x hx => (by cases hx), fun i j _ x y hx _ => (by simp at hx)⟩

set_option maxHeartbeats 1000000 in
theorem new_any (w : World) :
    Calls Tryz.prog 34 #[] w fun e w' => ∃ p, e = .returned (.pointer (some ⟨p, 0, none⟩)) ∧ Has w p newM w' := by
  have HA := Lib.hid (fun (w2 : World) (hb : Below (w.alloc (.cells #[.slice none 0 0] 137)).heap.size (w.alloc (.cells #[.slice none 0 0] 137)) w2) => add_any ⟨w.heap.size, .slice none 0 0, []⟩ (dirNd 493 0) 1 w2 ((fs_new w).keep hb) rfl (by simp))
  go_enter Tryz.func34, Tryz.ntmps34
  go_wp2_with (first
    | (go_at_call 78; refine (directory_any 493 0 _).mono ?_; rintro e w2 ⟨rfl, hb2⟩; have HB2 := Lib.hid hb2; clear hb2)
    | (go_at_call 77; refine (HA.out _ HB2.out).mono ?_; rintro e w3 ⟨rfl, v', H3, G3⟩; have R := Lib.hid (show Has w w.heap.size newM w3 from ⟨_, rfl, rfl, H3, (below_two ((Below.refl _ _).alloc (Nat.le_refl _) _) HB2.out).trans (G3.below (Nat.le_trans (by simp : w.heap.size ≤ (w.alloc (.cells #[.slice none 0 0] 137)).heap.size) HB2.out.size) (fun k hk => by rcases hk with q | q | ⟨x, hx, _⟩; exact Nat.le_of_eq q.symm; cases q; cases hx)), fun k hk => by rcases G3.new k hk with q | q; (rcases q with q | q | ⟨x, hx, _⟩; exact Nat.le_of_eq q.symm; cases q; cases hx); exact Nat.le_trans (Nat.le_trans (by simp : w.heap.size ≤ (w.alloc (.cells #[.slice none 0 0] 137)).heap.size) HB2.out.size) q⟩); clear H3 G3))
  go_ret
  exact ⟨_, rfl, R.out⟩

theorem Has.keep {w0 w w' : World} {p : Nat} {M : List Nd} (h : Has w0 p M w) (hb : Below w.heap.size w w') : Has w0 p M w' := by
  obtain ⟨h, h1, h2, H, hb0, hf⟩ := h
  exact ⟨h, h1, h2, H.keep hb, hb0.trans (hb.mono hb0.size), hf⟩
theorem Has.below {w0 w : World} {p : Nat} {M : List Nd} (h : Has w0 p M w) : Below w0.heap.size w0 w := by
  obtain ⟨h, h1, h2, H, hb0, hf⟩ := h
  exact hb0

theorem new_small : Small newM 0 := by
  refine ⟨by decide, fun n hn => ?_⟩
  obtain rfl : n = addedNd (dirNd 493 0) 1 [] := by simpa [newM] using hn
  exact ⟨by decide, by decide, by decide⟩
end Go.Proofs.YtknfhphhcnbndaaGreatDoor.V

namespace Go.Proofs.YtknfhphhcnbndaaGreatDoor.V
open Go.RowKit

/-- What the numbering looks at. -/
def numOf (n : Nd) : Int × Int := (n.dev, n.ino)
def DevInv (M : List Nd) : Prop := ∀ (i : Nat) (n : Nd), M[i]? = some n → 1 ≤ n.dev ∧ n.dev ≤ ((devL M 0).length : Int) ∧ n.ino = 1 + cntD n.dev (M.take i) ∧ ∀ p : Int, (devL M 0)[(n.dev - 1).toNat]? = some p → (n.ino = 1 ↔ p = (i : Int))

theorem devL_num : ∀ (a b : List Nd) (k : Nat), a.map numOf = b.map numOf → devL a k = devL b k
  | [], [], k, _ => rfl
  | [], y :: r, k, h => by simp at h
  | x :: r, [], k, h => by simp at h
  | x :: r, y :: t, k, h => by
    simp only [List.map_cons, List.cons.injEq] at h
    have e : x.ino = y.ino := congrArg Prod.snd h.1
    rw [devL, devL, e, devL_num r t (k + 1) h.2]
theorem cntD_num (d : Int) : ∀ (a b : List Nd), a.map numOf = b.map numOf → cntD d a = cntD d b
  | [], [], _ => rfl
  | [], y :: r, h => by simp at h
  | x :: r, [], h => by simp at h
  | x :: r, y :: t, h => by
    simp only [List.map_cons, List.cons.injEq] at h
    have e : x.dev = y.dev := congrArg Prod.fst h.1
    rw [cntD, cntD, e, cntD_num d r t h.2]
theorem devInv_num {a b : List Nd} (h : a.map numOf = b.map numOf) (H : DevInv a) : DevInv b := by
  intro i n hn
  have hm : (b.map numOf)[i]? = some (numOf n) := by rw [List.getElem?_map, hn]; rfl
  rw [← h, List.getElem?_map] at hm
  obtain ⟨m, hm1, hm2⟩ := Option.map_eq_some_iff.1 hm
  have e1 : m.dev = n.dev := congrArg Prod.fst hm2
  have e2 : m.ino = n.ino := congrArg Prod.snd hm2
  have := H i m hm1
  rw [devL_num a b 0 h, cntD_num m.dev (a.take i) (b.take i) (by rw [List.map_take, List.map_take, h]), e1, e2] at this
  exact this
theorem map_modify_same {M : List Nd} {i : Nat} {f : Nd → Nd} (hf : ∀ n, numOf (f n) = numOf n) : (M.modify i f).map numOf = M.map numOf := by
  apply List.ext_getElem?
  intro j
  rw [List.getElem?_map, List.getElem?_map, List.getElem?_modify]
  cases M[j]? with
  | none => rfl
  | some x =>
    show Option.map numOf (some (if i = j then f x else x)) = _
    split
    · show some (numOf (f x)) = _; rw [hf]; rfl
    · rfl

theorem cntD_pos {d : Int} {M : List Nd} {i : Nat} {n : Nd} (h : M[i]? = some n) (hd : n.dev = d) : 1 ≤ cntD d M := by
  induction M generalizing i with
  | nil => simp at h
  | cons x r ih =>
    have := (cntD_bd d r).1
    rw [cntD]
    cases i with
    | zero => simp at h; subst h; rw [if_pos hd]; omega
    | succ i => have := ih (i := i) (by simpa using h); split <;> omega
theorem cntD_zero {d : Int} {M : List Nd} (h : ∀ n ∈ M, n.dev ≠ d) : cntD d M = 0 := by
  induction M with
  | nil => rfl
  | cons x r ih =>
    rw [cntD, if_neg (h x (List.mem_cons_self ..)), ih (fun n hn => h n (List.mem_cons_of_mem _ hn))]
    rfl
theorem devInv_new : DevInv newM := by
  intro i n hn
  match i, hn with
  | 0, hn =>
    obtain rfl : n = addedNd (dirNd 493 0) 1 [] := by simpa [newM] using hn.symm
    refine ⟨by decide, by decide, by decide, fun p hp => ?_⟩
    have e : (devL newM 0)[(((addedNd (dirNd 493 0) 1 []).dev - 1)).toNat]? = some 0 := by decide
    rw [e] at hp
    obtain rfl := Option.some.inj hp
    exact ⟨fun _ => rfl, fun _ => by decide⟩
  | i + 1, hn => simp [newM] at hn
/-- A node more, on a device that there is, or on the next one. -/
theorem devInv_add {M : List Nd} {n : Nd} {d : Int} (H : DevInv M) (hd : (∃ (i : Nat) (x : Nd), M[i]? = some x ∧ x.dev = d) ∨ d = ((devL M 0).length : Int) + 1) : DevInv (M ++ [addedNd n d M]) := by
  have hdev : ∀ x ∈ M, 1 ≤ x.dev ∧ x.dev ≤ ((devL M 0).length : Int) := fun x hx => by
    obtain ⟨i, hi⟩ := List.mem_iff_getElem?.1 hx
    have := H i x hi
    exact ⟨this.1, this.2.1⟩
  have hlast : (M ++ [addedNd n d M]).take M.length = M := by rw [List.take_left]
  have hfst : ∀ p ∈ devL M 0, p < (M.length : Int) := by
    have : ∀ (a : List Nd) (k : Nat), ∀ p ∈ devL a k, p < ((k + a.length : Nat) : Int) := by
      intro a
      induction a with
      | nil => intro k p hp; cases hp
      | cons x r ih =>
        intro k p hp
        rw [devL] at hp
        rcases List.mem_append.1 hp with q | q
        · split at q
          · obtain rfl : p = (k : Int) := by simpa using q
            rw [List.length_cons]; omega
          · cases q
        · have := ih (k + 1) p q
          rw [List.length_cons]; omega
    intro p hp
    have := this M 0 p hp
    omega
  rcases hd with ⟨i0, x0, hx0, hxd⟩ | hd
  · have hpos := cntD_pos hx0 hxd
    have hino : (addedNd n d M).ino ≠ 1 := by show 1 + cntD d M ≠ 1; omega
    have hD : devL (M ++ [addedNd n d M]) 0 = devL M 0 := by rw [devL_append, devL, if_neg hino]; simp [devL]
    intro i m hm
    rw [hD]
    rcases Nat.lt_or_ge i M.length with q | q
    · rw [List.getElem?_append_left q] at hm
      have := H i m hm
      rw [List.take_append_of_le_length (by omega)]
      exact this
    · have hi : i = M.length := by
        have := (List.getElem?_eq_some_iff.1 hm).1
        simp at this
        omega
      subst hi
      rw [app_last] at hm
      obtain rfl := Option.some.inj hm
      rw [hlast]
      refine ⟨by show 1 ≤ d; rw [← hxd]; exact (hdev x0 (List.mem_of_getElem? hx0)).1, by show d ≤ _; rw [← hxd]; exact (hdev x0 (List.mem_of_getElem? hx0)).2, rfl, fun p hp => ⟨fun e => absurd e hino, fun e => ?_⟩⟩
      have := hfst p (List.mem_of_getElem? hp)
      omega
  · have hz : cntD d M = 0 := cntD_zero fun x hx => by have := hdev x hx; omega
    have hino : (addedNd n d M).ino = 1 := by show 1 + cntD d M = 1; omega
    have hD : devL (M ++ [addedNd n d M]) 0 = devL M 0 ++ [(M.length : Int)] := by rw [devL_append, devL, if_pos hino]; simp [devL]
    intro i m hm
    rw [hD, List.length_append]
    rcases Nat.lt_or_ge i M.length with q | q
    · rw [List.getElem?_append_left q] at hm
      have hH := H i m hm
      rw [List.take_append_of_le_length (by omega)]
      refine ⟨hH.1, by simp; omega, hH.2.2.1, fun p hp => hH.2.2.2 p ?_⟩
      rw [List.getElem?_append_left (by omega)] at hp
      exact hp
    · have hi : i = M.length := by
        have := (List.getElem?_eq_some_iff.1 hm).1
        simp at this
        omega
      subst hi
      rw [app_last] at hm
      obtain rfl := Option.some.inj hm
      rw [hlast]
      refine ⟨by show 1 ≤ d; omega, by show d ≤ _; simp; omega, rfl, fun p hp => ⟨fun _ => ?_, fun _ => hino⟩⟩
      rw [show ((addedNd n d M).dev - 1).toNat = (devL M 0).length from by show (d - 1).toNat = _; omega, app_last] at hp
      exact (Option.some.inj hp).symm
theorem setNd_num (c : Chg) (n : Nd) : numOf (setNd c n) = numOf n := by
  unfold setNd
  repeat' split
  all_goals rfl
theorem devInv_built {M : List Nd} {i : Nat} {s : ByteArray} {n : Nd} {d : Int} (H : DevInv M) (hd : ∃ (i : Nat) (x : Nd), M[i]? = some x ∧ x.dev = d) : DevInv (builtM M i s n d) := by
  unfold builtM
  refine devInv_num (a := M ++ [addedNd n d M]) ?_ (devInv_add H (.inl hd))
  rw [map_modify_same (f := moreLinks) (fun _ => rfl), map_modify_same (f := addEnt _ _) (fun _ => rfl)]
theorem devInv_do {M : List Nd} {c : Chg} (H : DevInv M) : DevInv (doM M c) := by
  unfold doM
  split
  · rename_i hw
    rcases wrong_cases hw with ⟨x, hx, hk, _⟩ | ⟨k2, x, y, hx, hy, _⟩ | ⟨k7, _, y, hy⟩ | ⟨hk, y, hy⟩
    · obtain ⟨i, hi, hxi⟩ := atM_some hx
      have hd : (atM M c.at_).elim 0 (·.dev) = x.dev := by rw [hx]; rfl
      unfold carryM
      rw [hd]
      rcases hk with k0 | ⟨k1, _⟩ | k3
      · rw [if_pos k0]; exact devInv_built H ⟨i, x, hxi, rfl⟩
      · rw [if_neg (by omega), if_pos k1]; exact devInv_built H ⟨i, x, hxi, rfl⟩
      · rw [if_neg (by omega), if_neg (by omega), if_neg (by omega), if_pos k3]; exact devInv_built H ⟨i, x, hxi, rfl⟩
    · unfold carryM
      rw [if_neg (by omega), if_neg (by omega), if_pos k2]
      exact devInv_num (a := M) (by rw [map_modify_same (f := moreLinks) (fun _ => rfl), map_modify_same (f := addEnt _ _) (fun _ => rfl)]) H
    · unfold carryM
      rw [if_neg (by omega), if_neg (by omega), if_neg (by omega), if_neg (by omega), if_pos k7]
      unfold coveredM
      exact devInv_num (a := M ++ [addedNd _ _ M]) (by rw [map_modify_same (f := setOver _) (fun _ => rfl)]) (devInv_add H (.inr rfl))
    · unfold carryM
      rw [if_neg (by omega), if_neg (by omega), if_neg (by omega), if_neg (by omega), if_neg (by omega)]
      exact devInv_num (a := M) (by rw [map_modify_same (setNd_num c)]) H
  · exact H
end Go.Proofs.YtknfhphhcnbndaaGreatDoor.V

namespace Go.Proofs.YtknfhphhcnbndaaGreatDoor.V
open Go.RowKit

/-- What is known of a node, but for its links. -/
def Nd.bare (n : Nd) : List Value := [.int .i64 n.dev, .int .i64 n.ino, .int .i64 n.kind, .int .i64 n.mode, .int .i64 n.uid, .int .i64 n.gid, .int .i64 n.size, .int .i64 n.blocks, .int .i64 0, .int .i64 n.t0, .int .i64 n.t1, .int .i64 n.t2, .string n.target]
theorem bare_len (n : Nd) : n.bare.length = 13 := rfl
def bares : List Nd → List Value
  | [] => []
  | n :: r => n.bare ++ bares r
/-- An entry of the reference's: where it stands, its name, its node. -/
structure It where
  at_ : Int
  name : ByteArray
  id : Int
def itCells : List It → List Value
  | [] => []
  | x :: r => .int .i64 x.at_ :: .string x.name :: .int .i64 x.id :: itCells r
/-- What covers the node number i: -1 for nothing. -/
def cov (i : Nat) (n : Nd) : Int := if n.over = (i : Int) then -1 else n.over
def covs : List Nd → Nat → List Value
  | [], _ => []
  | n :: r, i => .int .i64 (cov i n) :: covs r (i + 1)
def deads (M : List Nd) : List Value := M.map fun n => .bool n.dead
def ups (M : List Nd) : List Value := M.map fun n => .int .i64 n.up

theorem bares_len : ∀ M, (bares M).length = M.length * 13
  | [] => rfl
  | n :: r => by rw [bares, List.length_append, bare_len, bares_len r, List.length_cons]; omega
theorem bares_append : ∀ a b, bares (a ++ b) = bares a ++ bares b
  | [], b => rfl
  | n :: r, b => by rw [List.cons_append, bares, bares, bares_append r b, List.append_assoc]
theorem bares_one (n : Nd) : bares [n] = n.bare := by rw [bares, bares, List.append_nil]
theorem bares_get : ∀ (M : List Nd) (i k : Nat) (n : Nd), M[i]? = some n → k < 13 → (bares M)[i * 13 + k]? = n.bare[k]?
  | [], i, k, n, h, _ => by simp at h
  | m :: r, 0, k, n, h, hk => by
    simp at h
    subst h
    rw [bares, Nat.zero_mul, Nat.zero_add, List.getElem?_append_left (by rw [bare_len]; exact hk)]
  | m :: r, i + 1, k, n, h, hk => by
    have h' : r[i]? = some n := by simpa using h
    rw [bares, List.getElem?_append_right (by rw [bare_len]; omega), bare_len, show (i + 1) * 13 + k - 13 = i * 13 + k by omega]
    exact bares_get r i k n h' hk
theorem bares_set : ∀ (M : List Nd) (i k : Nat) (n n' : Nd) (u : Value), M[i]? = some n → k < 13 → n'.bare = n.bare.set k u → (bares M).set (i * 13 + k) u = bares (M.set i n')
  | [], i, k, n, n', u, h, _, _ => by simp at h
  | m :: r, 0, k, n, n', u, h, hk, hs => by
    simp at h
    subst h
    rw [bares, Nat.zero_mul, Nat.zero_add, List.set_append_left _ _ (by rw [bare_len]; exact hk), ← hs]
    rfl
  | m :: r, i + 1, k, n, n', u, h, hk, hs => by
    have h' : r[i]? = some n := by simpa using h
    rw [bares, List.set_append_right _ _ (by rw [bare_len]; omega), bare_len, show (i + 1) * 13 + k - 13 = i * 13 + k by omega, bares_set r i k n n' u h' hk hs]
    rfl
theorem itCells_append : ∀ l m, itCells (l ++ m) = itCells l ++ itCells m
  | [], m => rfl
  | x :: r, m => by rw [List.cons_append, itCells, itCells, itCells_append r m]; rfl
theorem itCells_get : ∀ (l : List It) (i : Nat) (x : It), l[i]? = some x → (itCells l)[i * 3]? = some (.int .i64 x.at_) ∧ (itCells l)[i * 3 + 1]? = some (.string x.name) ∧ (itCells l)[i * 3 + 2]? = some (.int .i64 x.id)
  | [], i, x, h => by simp at h
  | y :: r, 0, x, h => by simp at h; subst h; exact ⟨rfl, rfl, rfl⟩
  | y :: r, i + 1, x, h => by
    have h' : r[i]? = some x := by simpa using h
    have := itCells_get r i x h'
    rw [itCells, show (i + 1) * 3 = i * 3 + 1 + 1 + 1 by omega]
    exact this
theorem covs_len : ∀ M i, (covs M i).length = M.length
  | [], i => rfl
  | n :: r, i => by rw [covs, List.length_cons, covs_len r, List.length_cons]
theorem covs_append : ∀ a b i, covs (a ++ b) i = covs a i ++ covs b (i + a.length)
  | [], b, i => by simp [covs]
  | n :: r, b, i => by rw [List.cons_append, covs, covs, covs_append r b, List.length_cons, show i + 1 + r.length = i + (r.length + 1) by omega]; rfl
theorem covs_get : ∀ (M : List Nd) (b i : Nat) (n : Nd), M[i]? = some n → (covs M b)[i]? = some (.int .i64 (cov (b + i) n))
  | [], b, i, n, h => by simp at h
  | m :: r, b, 0, n, h => by simp at h; subst h; rfl
  | m :: r, b, i + 1, n, h => by
    have h' : r[i]? = some n := by simpa using h
    rw [covs, List.getElem?_cons_succ, covs_get r (b + 1) i n h', show b + 1 + i = b + (i + 1) by omega]

/-- The reference's value: its six slices. -/
structure Rv where
  n : Value
  l : Value
  c : Value
  d : Value
  a : Value
  f : Value
def rvV (v : Rv) : Value := .agg #[v.n, v.l, v.c, v.d, v.a, v.f]
structure Rs (M : List Nd) (L : List It) (v : Rv) (w : World) : Prop where
  hn : w.ownsRow 0 66 13 v.n M.length (bares M)
  hl : w.ownsRow 0 179 3 v.l L.length (itCells L)
  hc : w.ownsRow 0 3 1 v.c M.length (covs M 0)
  hd : w.ownsRow 0 4 1 v.d M.length (deads M)
  ha : w.ownsRow 0 3 1 v.a M.length (ups M)
  hf : w.ownsRow 0 3 1 v.f (devL M 0).length (ints (devL M 0))
theorem owns_keep {w w' : World} {e : TypeId} {size n : Nat} {v : Value} {xs : List Value} (h : w.ownsRow 0 e size v n xs) (hb : Below w.heap.size w w') : w'.ownsRow 0 e size v n xs := owns_at h fun k hk => hb.block k (h.lt k hk).2
theorem Rs.keep {M : List Nd} {L : List It} {v : Rv} {w w' : World} (h : Rs M L v w) (hb : Below w.heap.size w w') : Rs M L v w' :=
  ⟨owns_keep h.hn hb, owns_keep h.hl hb, owns_keep h.hc hb, owns_keep h.hd hb, owns_keep h.ha hb, owns_keep h.hf hb⟩
/-- The six slices, written out. -/
theorem Rs.forms {M : List Nd} {L : List It} {v : Rv} {w : World} (h : Rs M L v w) :
    ∃ an cn al cl ac cc ad cd aa ca af cf, v = ⟨.slice an M.length cn, .slice al L.length cl, .slice ac M.length cc, .slice ad M.length cd, .slice aa M.length ca, .slice af (devL M 0).length cf⟩ := by
  obtain ⟨n, l, c, d, a, f⟩ := v
  obtain ⟨an, cn, hn⟩ := owns_form h.hn
  obtain ⟨al, cl, hl⟩ := owns_form h.hl
  obtain ⟨ac, cc, hc⟩ := owns_form h.hc
  obtain ⟨ad, cd, hd⟩ := owns_form h.hd
  obtain ⟨aa, ca, ha⟩ := owns_form h.ha
  obtain ⟨af, cf, hf⟩ := owns_form h.hf
  refine ⟨an, cn, al, cl, ac, cc, ad, cd, aa, ca, af, cf, ?_⟩
  simp only at hn hl hc hd ha hf
  rw [hn, hl, hc, hd, ha, hf]

set_option maxHeartbeats 1000000 in
theorem bits_any (m : Int) (w : World) :
    Calls Tryz.prog 89 #[.int .i64 m] w fun e w' => e = .returned (.int .i64 (m % 4096)) ∧ w = w' := by
  obtain ⟨r, hr, r0, r1⟩ : ∃ r, Int.tmod m 4096 = r ∧ -4096 < r ∧ r < 4096 := ⟨_, rfl, by have := Int.lt_tmod_of_pos m (show (0 : Int) < 4096 by decide); omega, Int.tmod_lt_of_pos m (by decide)⟩
  have HE := Lib.hid (show (r + 4096) % 4096 = m % 4096 from by rw [← hr, Int.tmod_eq_emod]; split <;> omega)
  have hq : Int.tmod (r + 4096) 4096 = m % 4096 := by rw [Int.tmod_eq_emod_of_nonneg (by omega)]; exact HE.out
  go_enter Tryz.func89, Tryz.ntmps89
  go_wp2
  go_ret
  exact ⟨rfl, rfl⟩

set_option maxHeartbeats 1000000 in
theorem refHas_any (M : List Nd) (L : List It) (v : Rv) (i : Int) (w : World) (H : Rs M L v w) :
    Calls Tryz.prog 143 #[rvV v, .int .i64 i] w fun e w' => e = .returned (.bool (decide (0 ≤ i ∧ i < (M.length : Int)))) ∧ Below w.heap.size w w' := by
  obtain ⟨an, cn, al, cl, ac, cc, ad, cd, aa, ca, af, cf, rfl⟩ := H.forms
  have HB := Lib.hid (show decide (0 ≤ i ∧ i < (M.length : Int)) = (decide (0 ≤ i) && decide (i < (M.length : Int))) from by simp)
  have HBa := Lib.hid (show ∀ o, Below w.heap.size w (w.alloc o) from fun o => (Below.refl _ _).alloc (Nat.le_refl _) _)
  clear H
  unfold rvV
  rcases Classical.em (0 ≤ i) with hi | hi
  · have d1 : decide (0 ≤ i) = true := decide_eq_true hi
    go_enter Tryz.func143, Tryz.ntmps143
    go_wp2
    go_ret
    exact ⟨ret_bool (by first | rfl | (rw [HB.out, d1]; rfl)), HBa.out _⟩
  · have d1 : decide (0 ≤ i) = false := decide_eq_false hi
    go_enter Tryz.func143, Tryz.ntmps143
    go_wp2
    go_ret
    exact ⟨ret_bool (by first | rfl | (rw [HB.out, d1]; rfl)), HBa.out _⟩

theorem owns_int {w : World} {v : Value} {l : List Int} {e : TypeId} (h : w.ownsRow 0 e 1 v l.length (ints l)) {k : Nat} (hk : k < l.length) : ∃ g cap, v = .slice (some ⟨g, 0, none⟩) l.length cap ∧ w.cell? ⟨g, k, none⟩ = some (.int .i64 (l[k]'hk)) ∧ g < w.heap.size := by
  obtain ⟨g, cap, rfl, _, _⟩ := owns_some h (by omega)
  refine ⟨g, cap, rfl, owns_cell h (by unfold ints; rw [List.getElem?_map, List.getElem?_eq_getElem hk]; rfl), (h.lt g rfl).2⟩

def FirstRel (l : List Int) (i : Int) (w : World) (v : Value) (wr : World) : Prop := ∃ k : Nat, k ≤ l.length ∧ v = .int .i64 (k : Int) ∧ wr = w ∧ ∀ j (hj : j < l.length), j < k → l[j] ≠ i

set_option maxRecDepth 100000 in
set_option maxHeartbeats 2000000 in
theorem first_any (M : List Nd) (L : List It) (v : Rv) (i : Int) (w : World) (H : Rs M L v w) (hM : M.length ≤ 1000000) :
    Calls Tryz.prog 145 #[rvV v, .int .i64 i] w fun e w' => e = .returned (.bool (decide (i ∈ devL M 0))) ∧ Below w.heap.size w w' := by
  have hdl := devL_len M 0
  have hf := H.hf
  obtain ⟨an, cn, al, cl, ac, cc, ad, cd, aa, ca, af, cf, rfl⟩ := H.forms
  generalize devL M 0 = l at *
  have HF := Lib.hid hf
  have HBa := Lib.hid (show ∀ o, Below w.heap.size w (w.alloc o) from fun o => (Below.refl _ _).alloc (Nat.le_refl _) _)
  clear H hf
  unfold rvV
  go_enter Tryz.func145, Tryz.ntmps145
  go_wp2
  generalize hw2 : w.alloc (.cells #[.slice an M.length cn, .slice al L.length cl, .slice ac M.length cc, .slice ad M.length cd, .slice aa M.length ca, .slice af l.length cf] 31) = w2
  have b2 : Below w.heap.size w w2 := by rw [← hw2]; exact HBa.out _
  have q5 : w2.cell? ⟨w.heap.size, 5, none⟩ = some (.slice af l.length cf) := by rw [← hw2, cell_of_row _ _ _ _ _ _ (heap_alloc_new _ _)]; rfl
  have HF2 := Lib.hid (owns_keep HF.out b2)
  have HB2 := Lib.hid b2
  clear hw2 b2
  go_loopw [5] (FirstRel l i w2) (fun v _ => l.length - (intOf v).toNat)
  case atStart => exact ⟨0, Nat.zero_le _, rfl, rfl, fun j _ hj => by omega⟩
  case round =>
    obtain ⟨k, hk, rfl, rfl, hno⟩ := hrel
    have HN := Lib.hid hno
    clear hno
    by_cases hlt : k < l.length
    · obtain ⟨g, cap, hv, hc, _⟩ := owns_int HF2.out hlt
      simp only [Value.slice.injEq, true_and] at hv
      obtain ⟨rfl, rfl⟩ := hv
      obtain ⟨y, hy⟩ : ∃ y, l[k]'hlt = y := ⟨_, rfl⟩
      rw [hy] at hc
      have HY := Lib.hid hy
      clear hy
      by_cases he : y = i
      · have e1 : (y == i) = true := by simp [he]
        have HM := Lib.hid (show i ∈ l from by rw [← he, ← HY.out]; exact List.getElem_mem _)
        clear he
        go_wp2
        go_ret
        exact ⟨ret_bool (decide_eq_true HM.out).symm, HB2.out⟩
      · have e1 : (y == i) = false := by simp [he]
        have HE := Lib.hid he
        clear he
        go_wp2
        go_roundw
        case rel =>
          refine ⟨k + 1, by omega, by simp, rfl, fun j hj hjk => ?_⟩
          rcases Nat.lt_or_ge j k with q | q
          · exact HN.out j hj q
          · have : j = k := by omega
            subst this
            rw [HY.out]
            exact HE.out
        case measure => simp [intOf]; omega
    · have HM := Lib.hid (show ¬ i ∈ l from fun e => by
        obtain ⟨j, hj, e⟩ := List.getElem_of_mem e
        exact HN.out j hj (by omega) e)
      go_wp2
      go_ret
      exact ⟨ret_bool (decide_eq_false HM.out).symm, HB2.out⟩
end Go.Proofs.YtknfhphhcnbndaaGreatDoor.V

namespace Go.Proofs.YtknfhphhcnbndaaGreatDoor.V
open Go.RowKit

section
variable {P : Program} {w : World}
theorem wp_append_row {o : Oper} {a : Act} {K : Act → World → Prop} {Q : Exit → Act → World → Prop} (s x : Operand) (t : TypeId)
    (ho : o.op = .call { callee := .builtin .append, args := #[s, x], argTypes := #[t, t] })
    (base : Nat) (e : TypeId) (i : TypeInfo) (z : Value) (size bytes : Nat) (ht : P.underlying t = some (.slice e)) (hi : P.info? e = some i) (hz : i.zero = some z)
    (hsize : i.size = size) (hby : i.bytes = bytes) (hzs : z.cells.size = size) (hsz : 0 < size)
    (v : Value) (n : Nat) (xs : List Value) (hs : a.eval s = v) (hown : w.ownsRow base e size v n xs) (u : Value) (m : Nat) (ys : List Value) (hx : a.eval x = u) (hsrc : w.ownsRow 0 e size u m ys) (h1 : ∀ y ∈ ys, y.oneCell' = true)
    (h63 : n + m ≤ maxLen) (hbytes : (n + m) * bytes ≤ 140737488355328) (hbase : base ≤ w.heap.size)
    (h : ∀ v' w', w'.ownsRow base e size v' (n + m) (xs ++ ys) → w.grownBy w' v.ownBlock → K (a.put o.dst v') w') : o.wp P a w K Q := by
  rcases hsrc.2 with ⟨rfl, rfl⟩ | ⟨g, cap, cur, rfl, _⟩
  · have hy : ys = [] := List.eq_nil_of_length_eq_zero (by simpa using hsrc.1)
    subst hy
    have hrun := run_append_owned_none (P := P) (w := w) base t o.type e i size ht hi v n xs hown
    unfold Oper.wp
    simp [execOp, ho, resolve, invoke, builtin, hs, hx, hrun, Result.andThen]
    exact h _ _ (by simpa using hown) ⟨rfl, rfl, rfl, Nat.le_refl _, fun _ _ _ => rfl⟩
  · exact wp_append_own w s x t ho base e i z size bytes ht hi hz hsize hby hzs hsz v n xs hs hown ⟨g, 0, none⟩ m cap ys hx hsrc.1 (hsrc.cells rfl) h1 h63 hbytes hbase (fun v' w' p q _ => h v' w' p q)
theorem wpList_append_row {ops : Array Oper} {rest : List Oper} {o : Oper} {a : Act} {Q : Exit → Act → World → Prop} (hgd : o.guard = none) (s x : Operand) (t : TypeId)
    (ho : o.op = .call { callee := .builtin .append, args := #[s, x], argTypes := #[t, t] })
    (base : Nat) (e : TypeId) (i : TypeInfo) (z : Value) (size bytes : Nat) (ht : P.underlying t = some (.slice e)) (hi : P.info? e = some i) (hz : i.zero = some z)
    (hsize : i.size = size) (hby : i.bytes = bytes) (hzs : z.cells.size = size) (hsz : 0 < size)
    (v : Value) (n : Nat) (xs : List Value) (hs : a.eval s = v) (hown : w.ownsRow base e size v n xs) (u : Value) (m : Nat) (ys : List Value) (hx : a.eval x = u) (hsrc : w.ownsRow 0 e size u m ys) (h1 : ∀ y ∈ ys, y.oneCell' = true)
    (h63 : n + m ≤ maxLen) (hbytes : (n + m) * bytes ≤ 140737488355328) (hbase : base ≤ w.heap.size)
    (h : ∀ v' w', w'.ownsRow base e size v' (n + m) (xs ++ ys) → w.grownBy w' v.ownBlock → wpList P ops Q rest (a.put o.dst v') w') : wpList P ops Q (o :: rest) a w :=
  wpList_plain hgd fun _ hK => wp_append_row s x t ho base e i z size bytes ht hi hz hsize hby hzs hsz v n xs hs hown u m ys hx hsrc h1 h63 hbytes hbase fun v' w' p q => hK _ _ (h v' w' p q)
theorem step_append_row {ops : Array Oper} {o : Oper} {a : Act} {K : Act → World → Prop} {Q : Exit → Act → World → Prop} {E : Prop} (hgd : o.guard = none) (s x : Operand) (t : TypeId)
    (ho : o.op = .call { callee := .builtin .append, args := #[s, x], argTypes := #[t, t] })
    (base : Nat) (e : TypeId) (i : TypeInfo) (z : Value) (size bytes : Nat) (ht : P.underlying t = some (.slice e)) (hi : P.info? e = some i) (hz : i.zero = some z)
    (hsize : i.size = size) (hby : i.bytes = bytes) (hzs : z.cells.size = size) (hsz : 0 < size)
    (v : Value) (n : Nat) (xs : List Value) (hs : a.eval s = v) (hown : w.ownsRow base e size v n xs) (u : Value) (m : Nat) (ys : List Value) (hx : a.eval x = u) (hsrc : w.ownsRow 0 e size u m ys) (h1 : ∀ y ∈ ys, y.oneCell' = true)
    (h63 : n + m ≤ maxLen) (hbytes : (n + m) * bytes ≤ 140737488355328) (hbase : base ≤ w.heap.size)
    (h : ∀ v' w', w'.ownsRow base e size v' (n + m) (xs ++ ys) → w.grownBy w' v.ownBlock → K (a.put o.dst v') w') :
    if Region.wanted o (yielded ops a.tmps) = true then Oper.wp P o a w K Q else E := by
  have hw : Region.wanted o (yielded ops a.tmps) = true := by simp [Region.wanted, hgd]
  rw [if_pos hw]
  exact wp_append_row s x t ho base e i z size bytes ht hi hz hsize hby hzs hsz v n xs hs hown u m ys hx hsrc h1 h63 hbytes hbase h
end

/-- All but one block is as it was. -/
structure But (b : Nat) (w w' : World) : Prop where
  os : w'.os = w.os
  tape : w'.tape = w.tape
  output : w'.output = w.output
  size : w.heap.size ≤ w'.heap.size
  block : ∀ k, k < w.heap.size → k ≠ b → w'.heap[k]? = w.heap[k]?
theorem But.owns {b : Nat} {w w' : World} (h : But b w w') {e : TypeId} {size n : Nat} {v : Value} {xs : List Value} (ho : w.ownsRow 0 e size v n xs) {arr : Array Value} {T : TypeId} {fr : Nat × Nat} (hb : w.heap[b]? = some (.cells arr T fr)) (hT : e ≠ T) : w'.ownsRow 0 e size v n xs :=
  owns_at ho fun k hk => h.block k (ho.lt k hk).2 (fun q => by
    subst q
    obtain ⟨cur, hc⟩ := owns_type ho hk
    rw [hb] at hc
    simp at hc
    exact hT hc.2.1.symm)
theorem But.below {b B : Nat} {w0 w w' : World} (h : But b w w') (h0 : Below B w0 w) (hB : B ≤ b) (hw : B ≤ w.heap.size) : Below B w0 w' :=
  h0.trans ⟨h.os, h.tape, h.output, h.size, fun k hk => h.block k (by omega) (by omega)⟩

theorem grown_old {A B : World} {row : Option Nat} {base k : Nat} (hg : A.grownBy B row) (hr : ∀ j, row = some j → base ≤ j) (hk : k < A.heap.size) (hb : k < base) : B.heap[k]? = A.heap[k]? :=
  hg.block k hk (fun e => by have := hr k e.symm; omega)

/-- Two appends behind one another, and the store of what they made into the box b. -/
theorem app_two {W W1 W2 : World} {o1 o2 : Obj} {r1 r2 : Option Nat} {b k : Nat} {v : Value} (h1 : (W.alloc o1).grownBy W1 r1) (h2 : (W1.alloc o2).grownBy W2 r2) (hr1 : ∀ j, r1 = some j → W.heap.size ≤ j) (hr2 : ∀ j, r2 = some j → W.heap.size ≤ j)
    {arr : Array Value} {T : TypeId} (hb : W.heap[b]? = some (.cells arr T (0, 0))) :
    W2.heap[b]? = some (.cells arr T (0, 0)) ∧ But b W (W2.setCell ⟨b, k, none⟩ v) ∧ (W2.setCell ⟨b, k, none⟩ v).heap[b]? = some (.cells (arr.setIfInBounds k v) T (0, 0)) := by
  have hbl := heap_lt hb
  have s1 : W.heap.size ≤ W1.heap.size := Nat.le_trans (by simp) h1.size
  have s2 : W1.heap.size ≤ W2.heap.size := Nat.le_trans (by simp) h2.size
  have keep : ∀ j, j < W.heap.size → W2.heap[j]? = W.heap[j]? := fun j hj => by
    rw [grown_old h2 hr2 (by simp; omega) hj, heap_alloc_old _ _ (by omega), grown_old h1 hr1 (by simp; omega) hj, heap_alloc_old _ _ hj]
  have hb2 : W2.heap[b]? = some (.cells arr T (0, 0)) := (keep b hbl).trans hb
  refine ⟨hb2, ⟨?_, ?_, ?_, ?_, ?_⟩, heap_setCell_same _ _ _ _ _ _ hb2⟩
  · exact h2.os.trans h1.os
  · exact h2.tape.trans h1.tape
  · exact h2.output.trans h1.output
  · rw [size_setCell]; omega
  · intro j hj hjb
    rw [heap_setCell_other _ _ _ _ (by exact hjb)]
    exact keep j hj
/-- The same, both new blocks laid ahead of the appends. -/
theorem app_two' {W W1 W2 : World} {o1 o2 : Obj} {r1 r2 : Option Nat} {b k : Nat} {v : Value} (h1 : ((W.alloc o1).alloc o2).grownBy W1 r1) (h2 : W1.grownBy W2 r2) (hr1 : ∀ j, r1 = some j → W.heap.size ≤ j) (hr2 : ∀ j, r2 = some j → W.heap.size ≤ j)
    {arr : Array Value} {T : TypeId} (hb : W.heap[b]? = some (.cells arr T (0, 0))) :
    W2.heap[b]? = some (.cells arr T (0, 0)) ∧ But b W (W2.setCell ⟨b, k, none⟩ v) ∧ (W2.setCell ⟨b, k, none⟩ v).heap[b]? = some (.cells (arr.setIfInBounds k v) T (0, 0)) := by
  have hbl := heap_lt hb
  have s1 : W.heap.size ≤ W1.heap.size := Nat.le_trans (by simp; omega) h1.size
  have s2 : W1.heap.size ≤ W2.heap.size := h2.size
  have keep : ∀ j, j < W.heap.size → W2.heap[j]? = W.heap[j]? := fun j hj => by
    rw [grown_old h2 hr2 (by omega) hj, grown_old h1 hr1 (by simp; omega) hj, heap_alloc_old _ _ (by simp; omega), heap_alloc_old _ _ hj]
  have hb2 : W2.heap[b]? = some (.cells arr T (0, 0)) := (keep b hbl).trans hb
  refine ⟨hb2, ⟨?_, ?_, ?_, ?_, ?_⟩, heap_setCell_same _ _ _ _ _ _ hb2⟩
  · exact h2.os.trans h1.os
  · exact h2.tape.trans h1.tape
  · exact h2.output.trans h1.output
  · rw [size_setCell]; omega
  · intro j hj hjb
    rw [heap_setCell_other _ _ _ _ (by exact hjb)]
    exact keep j hj
theorem owns_made {W : World} {e : TypeId} {size base : Nat} (hb : base ≤ W.heap.size) : (W.alloc (.cells #[] e)).ownsRow base e size (.slice (some ⟨W.heap.size, 0, none⟩) 0 0) 0 [] := World.ownsRow_made W #[] 0 hb (by decide) (by simp)
theorem own_ge {w : World} {base : Nat} {e : TypeId} {size n : Nat} {v : Value} {xs : List Value} (h : w.ownsRow base e size v n xs) : ∀ j, v.ownBlock = some j → base ≤ j := fun j hj => (h.lt j hj).1
theorem owns_single {W : World} {e : TypeId} {xs : List Value} (size : Nat) (hs : xs.length = size) : (W.alloc (.cells xs.toArray e)).ownsRow 0 e size (.slice (some ⟨W.heap.size, 0, none⟩) 1 1) 1 xs :=
  ⟨by omega, .inr ⟨W.heap.size, 1, xs.toArray, rfl, Nat.zero_le _, heap_alloc_new _ _, Nat.le_refl _, by decide, by simp [hs], by simp; exact List.take_of_length_le (by omega)⟩⟩
theorem owns_set {W2 : World} {b k base : Nat} {e : TypeId} {size n : Nat} {v u : Value} {xs : List Value} (h : W2.ownsRow base e size v n xs) (hb : b < base) : (W2.setCell ⟨b, k, none⟩ u).ownsRow 0 e size v n xs := by
  obtain ⟨h1, h2⟩ := h
  refine ⟨h1, ?_⟩
  rcases h2 with q | ⟨g, cap, cur, rfl, hg, hh, rest⟩
  · exact .inl q
  · exact .inr ⟨g, cap, cur, rfl, Nat.zero_le _, by rw [heap_setCell_other _ _ _ _ (show g ≠ b by omega)]; exact hh, rest⟩
theorem bares_one' (M : List Nd) : ∀ u ∈ bares M, u.oneCell' = true := by
  induction M with
  | nil => intro u hu; cases hu
  | cons n r ih =>
    intro u hu
    rcases List.mem_append.1 hu with q | q
    · simp only [Nd.bare, List.mem_cons, List.mem_nil_iff, or_false] at q
      rcases q with rfl | rfl | rfl | rfl | rfl | rfl | rfl | rfl | rfl | rfl | rfl | rfl | rfl
      all_goals rfl
    · exact ih u q
theorem covs_one : ∀ (M : List Nd) (i : Nat), ∀ u ∈ covs M i, u.oneCell' = true
  | [], i, u, hu => by cases hu
  | n :: r, i, u, hu => by
    rcases List.mem_cons.1 hu with rfl | q
    · rfl
    · exact covs_one r (i + 1) u q
theorem deads_one (M : List Nd) : ∀ u ∈ deads M, u.oneCell' = true := fun u hu => by
  obtain ⟨n, _, rfl⟩ := List.mem_map.1 hu
  rfl
theorem ups_one (M : List Nd) : ∀ u ∈ ups M, u.oneCell' = true := fun u hu => by
  obtain ⟨n, _, rfl⟩ := List.mem_map.1 hu
  rfl
theorem ints_one (l : List Int) : ∀ u ∈ ints l, u.oneCell' = true := fun u hu => by
  obtain ⟨n, _, rfl⟩ := List.mem_map.1 hu
  rfl
theorem its_one : ∀ (l : List It), ∀ u ∈ itCells l, u.oneCell' = true
  | [], u, hu => by cases hu
  | x :: r, u, hu => by
    rw [itCells] at hu
    rcases List.mem_cons.1 hu with rfl | q
    · rfl
    rcases List.mem_cons.1 q with rfl | q
    · rfl
    rcases List.mem_cons.1 q with rfl | q
    · rfl
    exact its_one r u q
end Go.Proofs.YtknfhphhcnbndaaGreatDoor.V

namespace Go.Proofs.YtknfhphhcnbndaaGreatDoor.V
open Go.RowKit

def listE (M : List Nd) (i : Int) : Int := match atM M i with
  | none => 2
  | some n => if n.kind = 2 then (if n.dead then 8 else 0) else 3
def listL (M : List Nd) (i : Int) : List (ByteArray × Int) := match atM M i with
  | none => []
  | some n => if n.kind = 2 then (if n.dead then [] else n.ents) else []
def linkE (M : List Nd) (i : Int) : Int := match atM M i with
  | none => 2
  | some n => if n.kind = 3 then (if n.dead then 8 else 0) else 1
def linkT (M : List Nd) (i : Int) : ByteArray := match atM M i with
  | none => ⟨#[]⟩
  | some n => if n.kind = 3 then (if n.dead then ⟨#[]⟩ else n.target) else ⟨#[]⟩
def overI (M : List Nd) (i : Int) : Int := match atM M i with
  | none => i
  | some n => n.over
def upI (M : List Nd) (i : Int) : Int := match atM M i with
  | none => -1
  | some n => n.up

theorem atM_none {h : Fsh} {i : Int} (hi : atM h.M i = none) : hasB h i = false := by
  unfold atM at hi
  unfold hasB
  rw [decide_eq_false_iff_not]
  intro q
  have hml : h.M.length = h.X.length := List.length_map ..
  rw [if_pos (by omega)] at hi
  have := List.getElem?_eq_none_iff.1 hi
  omega
theorem atM_at {h : Fsh} {i : Int} {n : Nd} (hi : atM h.M i = some n) : ∃ (k : Nat) (x : Nd × Value), i = (k : Int) ∧ h.X[k]? = some x ∧ x.1 = n := by
  obtain ⟨k, hk, hn⟩ := atM_some hi
  obtain ⟨x, hx, hxn⟩ := fs_at hn
  exact ⟨k, x, hk, hx, hxn⟩

theorem infoEnt : (Tryz.prog.info? 177).map (fun i => (i.zero, i.size, i.bytes)) = some (some (.agg #[.string ⟨#[]⟩, .int .i64 0]), 2, 24) := by kernel_rfl
theorem ents_one : ∀ l : List (ByteArray × Int), ∀ u ∈ entCells l, u.oneCell' = true
  | [], u, hu => by cases hu
  | x :: r, u, hu => by
    rw [entCells] at hu
    rcases List.mem_cons.1 hu with rfl | hu
    · rfl
    · rcases List.mem_cons.1 hu with rfl | hu
      · rfl
      · exact ents_one r u hu

set_option maxRecDepth 100000 in
set_option maxHeartbeats 4000000 in
/-- slices.Clone of a row of entries: a new row of the same. -/
theorem clone_any (v : Value) (l : List (ByteArray × Int)) (w : World) (H : w.ownsRow 0 177 2 v l.length (entCells l)) (hl : l.length ≤ 1000000) :
    Calls Tryz.prog 224 #[v] w fun e w' => ∃ u, e = .returned u ∧ w'.ownsRow w.heap.size 177 2 u l.length (entCells l) ∧ Below w.heap.size w w' := by
  have hnil := fun W a n c => _root_.Go.run_eql_slice_nil (P := Tryz.prog) W 133 177 a n c Tryz.underlying133
  rcases H.2 with ⟨rfl, h0⟩ | ⟨g, cap, cur, rfl, _⟩
  · obtain rfl : l = [] := List.eq_nil_of_length_eq_zero h0
    go_enter Tryz.func224, Tryz.ntmps224
    go_wp2
    go_ret
    exact ⟨_, rfl, World.ownsRow_nil _ _ _ _, Below.refl _ _⟩
  · obtain ⟨i0, hi, hz0, hz1, hz2⟩ := info_parts infoEnt
    have HMX := Lib.hid (show 0 + l.length ≤ maxLen from by unfold maxLen; omega)
    have HS := Lib.hid (show ∀ o, (w.alloc o).ownsRow 0 177 2 (.slice (some ⟨g, 0, none⟩) l.length cap) l.length (entCells l) from fun o => H.alloc o)
    clear H
    go_enter Tryz.func224, Tryz.ntmps224
    go_wp2_with (at_builtin; refine wpList_append_row rfl (.tmp 5) (.tmp 6) 133 rfl w.heap.size 177 i0 _ 2 24 Tryz.underlying133 hi hz0 hz1 hz2 rfl (by decide) (.slice (some ⟨w.heap.size, 0, none⟩) 0 0) 0 [] rfl (owns_made (Nat.le_refl _)) (.slice (some ⟨g, 0, none⟩) l.length cap) l.length (entCells l) rfl (HS.out _) (ents_one l) HMX.out (by omega) (by simp) ?_; intro v1 w1 hown1 hg1; rw [Nat.zero_add, List.nil_append] at hown1; have HO := Lib.hid hown1; have HG := Lib.hid hg1; clear hown1 hg1)
    go_ret
    exact ⟨_, rfl, HO.out, ((Below.refl _ _).alloc (Nat.le_refl _) _).grown HG.out (by simp) (fun j hj => by cases hj; exact Nat.le_refl _)⟩

/-- What an asker sees of the node number i: the facts on its cells. -/
theorem list_no (h : Fsh) (i : Int) (w : World) (H : Fs h w) (hn : 0 < h.X.length) (hi : hasB h i = false) :
    Calls Tryz.prog 167 #[.pointer (some ⟨h.p, 0, none⟩), .int .i64 i] w fun e w' => e = .returned (.tuple #[.slice none 0 0, .int .i64 2]) ∧ w = w' := by
  have hh := has_any h i w H hn
  rw [hi] at hh
  have HH := Lib.hid hh
  clear hh H hi
  go_enter Tryz.func167, Tryz.ntmps167
  go_wp2_with (refine HH.out.mono ?_; rintro e w2 ⟨rfl, hw⟩; subst hw)
  go_ret2
  exact ⟨rfl, rfl⟩
theorem link_no (h : Fsh) (i : Int) (w : World) (H : Fs h w) (hn : 0 < h.X.length) (hi : hasB h i = false) :
    Calls Tryz.prog 84 #[.pointer (some ⟨h.p, 0, none⟩), .int .i64 i] w fun e w' => e = .returned (.tuple #[.string ⟨#[]⟩, .int .i64 2]) ∧ w = w' := by
  have hh := has_any h i w H hn
  rw [hi] at hh
  have HH := Lib.hid hh
  clear hh H hi
  go_enter Tryz.func84, Tryz.ntmps84
  go_wp2_with (refine HH.out.mono ?_; rintro e w2 ⟨rfl, hw⟩; subst hw)
  go_ret2
  exact ⟨rfl, rfl⟩
def zeroCells : Array Value := #[.int .i64 0, .int .i64 0, .int .i64 0, .int .i64 0, .int .i64 0, .int .i64 0, .int .i64 0, .int .i64 0, .int .i64 0, .int .i64 0, .int .i64 0, .int .i64 0, .string ⟨#[]⟩]
def zeroNode : Value := .agg zeroCells
set_option maxRecDepth 100000 in
set_option maxHeartbeats 4000000 in
theorem node_no (h : Fsh) (i : Int) (w : World) (H : Fs h w) (hn : 0 < h.X.length) (hi : hasB h i = false) :
    Calls Tryz.prog 30 #[.pointer (some ⟨h.p, 0, none⟩), .int .i64 i] w fun e w' => e = .returned (.tuple #[zeroNode, .int .i64 2]) ∧ Below w.heap.size w w' := by
  have HH := Lib.hid (fun W (hb : Below w.heap.size w W) => has_any h i W (H.keep hb) hn)
  rw [hi] at HH
  have HBa := Lib.hid (show ∀ o, Below w.heap.size w (w.alloc o) from fun o => (Below.refl _ _).alloc (Nat.le_refl _) _)
  clear H hi
  go_enter Tryz.func30, Tryz.ntmps30
  go_wp2_with (go_at_call 65; refine (HH.out _ (HBa.out _)).mono ?_; rintro e w2 ⟨rfl, hw⟩; subst hw)
  refine bodyPost_ret (v := .tuple #[zeroNode, .int .i64 2]) ?_ rfl ⟨rfl, HBa.out _⟩
  rw [results_cell_tmp Tryz.results30]
  have hl := run_loadVar_row (P := Tryz.prog) (w.alloc (.cells zeroCells 66)) w.heap.size 66 66 zeroCells (0, 0) _ (heap_alloc_new _ _) Tryz.underlying66 rfl (by rw [sizeKnown]; rfl)
  unfold zeroCells at hl
  simp [asAddr, hl, Result.andThen, zeroNode, zeroCells]

set_option maxRecDepth 100000 in
set_option maxHeartbeats 4000000 in
theorem list_at (h : Fsh) (i : Nat) (x : Nd × Value) (w : World) (H : Fs h w) (hx : h.X[i]? = some x) (hl : x.1.ents.length ≤ 1000000) :
    Calls Tryz.prog 167 #[.pointer (some ⟨h.p, 0, none⟩), .int .i64 (i : Int)] w fun e w' => ∃ v, e = .returned (.tuple #[v, .int .i64 (if x.1.kind = 2 then (if x.1.dead then 8 else 0) else 3)]) ∧
      w'.ownsRow w.heap.size 177 2 v (if x.1.kind = 2 then (if x.1.dead then [] else x.1.ents) else []).length (entCells (if x.1.kind = 2 then (if x.1.dead then [] else x.1.ents) else [])) ∧ Below w.heap.size w w' := by
  have hil : i < h.X.length := (List.getElem?_eq_some_iff.1 hx).1
  obtain ⟨g, cap, hv, _, _⟩ := H.slice (by omega)
  have c0 : w.cell? ⟨h.p, 0, none⟩ = some (.slice (some ⟨g, 0, none⟩) h.X.length cap) := by rw [← hv]; exact H.cell0
  have c1 := H.at_node hv hx (k := 13) (by omega) rfl
  have c2 := H.at_node hv hx (k := 16) (by omega) rfl
  have hhas : hasB h (i : Int) = true := by simp [hasB, hil]
  have hh := has_any h (i : Int) w H (by omega)
  rw [hhas] at hh
  have HH := Lib.hid hh
  have HD := Lib.hid (isDir_any h i x w H hx)
  have HC := Lib.hid (clone_any x.2 x.1.ents w (H.ents x (List.mem_of_getElem? hx)) hl)
  clear hh hv H hhas
  by_cases hk : x.1.kind = 2
  · have k2 : (x.1.kind == 2) = true := by rw [hk]; rfl
    rw [k2] at HD
    simp only [if_pos hk]
    clear hk k2
    cases hd : x.1.dead with
    | true =>
      rw [hd] at c1
      clear hd
      go_enter Tryz.func167, Tryz.ntmps167
      go_wp2_with (first
        | (go_at_call 65; refine HH.out.mono ?_; rintro e w2 ⟨rfl, hw⟩; subst hw)
        | (go_at_call 178; refine HD.out.mono ?_; rintro e w2 ⟨rfl, hw⟩; subst hw))
      go_ret2
      exact ⟨_, rfl, World.ownsRow_nil _ _ _ _, Below.refl _ _⟩
    | false =>
      rw [hd] at c1
      clear hd
      go_enter Tryz.func167, Tryz.ntmps167
      go_wp2_with (first
        | (go_at_call 65; refine HH.out.mono ?_; rintro e w2 ⟨rfl, hw⟩; subst hw)
        | (go_at_call 178; refine HD.out.mono ?_; rintro e w2 ⟨rfl, hw⟩; subst hw)
        | (go_at_call 224; refine HC.out.mono ?_; rintro e w2 ⟨u, rfl, ho, hb⟩; have HO := Lib.hid ho; have HB := Lib.hid hb; clear ho hb))
      go_ret2
      exact ⟨_, rfl, HO.out, HB.out⟩
  · have k2 : (x.1.kind == 2) = false := beq_eq_false_iff_ne.2 hk
    rw [k2] at HD
    simp only [if_neg hk]
    clear hk k2
    go_enter Tryz.func167, Tryz.ntmps167
    go_wp2_with (first
      | (go_at_call 65; refine HH.out.mono ?_; rintro e w2 ⟨rfl, hw⟩; subst hw)
      | (go_at_call 178; refine HD.out.mono ?_; rintro e w2 ⟨rfl, hw⟩; subst hw))
    go_ret2
    exact ⟨_, rfl, World.ownsRow_nil _ _ _ _, Below.refl _ _⟩

set_option maxRecDepth 100000 in
set_option maxHeartbeats 4000000 in
theorem link_at (h : Fsh) (i : Nat) (x : Nd × Value) (w : World) (H : Fs h w) (hx : h.X[i]? = some x) :
    Calls Tryz.prog 84 #[.pointer (some ⟨h.p, 0, none⟩), .int .i64 (i : Int)] w fun e w' => e = .returned (.tuple #[.string (if x.1.kind = 3 then (if x.1.dead then ⟨#[]⟩ else x.1.target) else ⟨#[]⟩), .int .i64 (if x.1.kind = 3 then (if x.1.dead then 8 else 0) else 1)]) ∧ w = w' := by
  have hil : i < h.X.length := (List.getElem?_eq_some_iff.1 hx).1
  obtain ⟨g, cap, hv, _, _⟩ := H.slice (by omega)
  have c0 : w.cell? ⟨h.p, 0, none⟩ = some (.slice (some ⟨g, 0, none⟩) h.X.length cap) := by rw [← hv]; exact H.cell0
  have c1 := H.at_node hv hx (k := 13) (by omega) rfl
  have c2 := H.at_node hv hx (k := 2) (by omega) rfl
  have c3 := H.at_node hv hx (k := 12) (by omega) rfl
  have hhas : hasB h (i : Int) = true := by simp [hasB, hil]
  have hh := has_any h (i : Int) w H (by omega)
  rw [hhas] at hh
  have HH := Lib.hid hh
  clear hh hv H hhas
  by_cases hk : x.1.kind = 3
  · have k2 : (x.1.kind != 3) = false := by rw [hk]; rfl
    simp only [if_pos hk]
    rw [hk] at c2
    clear hk k2
    cases hd : x.1.dead with
    | true =>
      rw [hd] at c1
      clear hd
      go_enter Tryz.func84, Tryz.ntmps84
      go_wp2_with (go_at_call 65; refine HH.out.mono ?_; rintro e w2 ⟨rfl, hw⟩; subst hw)
      go_ret2
      exact ⟨rfl, rfl⟩
    | false =>
      rw [hd] at c1
      clear hd
      go_enter Tryz.func84, Tryz.ntmps84
      go_wp2_with (go_at_call 65; refine HH.out.mono ?_; rintro e w2 ⟨rfl, hw⟩; subst hw)
      go_ret2
      exact ⟨rfl, rfl⟩
  · have k2 : (x.1.kind != 3) = true := by simpa using hk
    simp only [if_neg hk]
    clear hk
    go_enter Tryz.func84, Tryz.ntmps84
    go_wp2_with (go_at_call 65; refine HH.out.mono ?_; rintro e w2 ⟨rfl, hw⟩; subst hw)
    go_ret2
    exact ⟨rfl, rfl⟩

/-- At most so many entries a directory. -/
def FewE (M : List Nd) : Prop := ∀ n ∈ M, n.ents.length ≤ 1000000
section
variable {w0 w : World} {p : Nat} {M : List Nd}
theorem has_list (i : Int) (h : Has w0 p M w) (hn : 0 < M.length) (hl : FewE M) :
    Calls Tryz.prog 167 #[.pointer (some ⟨p, 0, none⟩), .int .i64 i] w fun e w' => ∃ v, e = .returned (.tuple #[v, .int .i64 (listE M i)]) ∧
      w'.ownsRow w.heap.size 177 2 v (listL M i).length (entCells (listL M i)) ∧ Below w.heap.size w w' := by
  obtain ⟨h, rfl, rfl, H, hb, hf⟩ := h
  have hml : h.M.length = h.X.length := List.length_map ..
  unfold listE listL
  cases ha : atM h.M i with
  | none =>
    refine (list_no h i w H (by omega) (atM_none ha)).mono ?_
    rintro e w' ⟨rfl, rfl⟩
    exact ⟨_, rfl, World.ownsRow_nil _ _ _ _, Below.refl _ _⟩
  | some n =>
    obtain ⟨k, x, rfl, hx, rfl⟩ := atM_at ha
    exact list_at h k x w H hx (hl _ (List.mem_map_of_mem (List.mem_of_getElem? hx)))
theorem has_link (i : Int) (h : Has w0 p M w) (hn : 0 < M.length) :
    Calls Tryz.prog 84 #[.pointer (some ⟨p, 0, none⟩), .int .i64 i] w fun e w' => e = .returned (.tuple #[.string (linkT M i), .int .i64 (linkE M i)]) ∧ w = w' := by
  obtain ⟨h, rfl, rfl, H, hb, hf⟩ := h
  have hml : h.M.length = h.X.length := List.length_map ..
  unfold linkE linkT
  cases ha : atM h.M i with
  | none => exact link_no h i w H (by omega) (atM_none ha)
  | some n =>
    obtain ⟨k, x, rfl, hx, rfl⟩ := atM_at ha
    exact link_at h k x w H hx
theorem has_over (i : Int) (h : Has w0 p M w) (hn : 0 < M.length) :
    Calls Tryz.prog 59 #[.pointer (some ⟨p, 0, none⟩), .int .i64 i] w fun e w' => e = .returned (.int .i64 (overI M i)) ∧ w = w' := by
  obtain ⟨h, rfl, rfl, H, hb, hf⟩ := h
  have hml : h.M.length = h.X.length := List.length_map ..
  unfold overI
  cases ha : atM h.M i with
  | none => exact over_no h i w H (by omega) (atM_none ha)
  | some n =>
    obtain ⟨k, x, rfl, hx, rfl⟩ := atM_at ha
    exact over_any h k x w H hx
theorem has_up (i : Int) (h : Has w0 p M w) (hn : 0 < M.length) :
    Calls Tryz.prog 189 #[.pointer (some ⟨p, 0, none⟩), .int .i64 i] w fun e w' => e = .returned (.int .i64 (upI M i)) ∧ w = w' := by
  obtain ⟨h, rfl, rfl, H, hb, hf⟩ := h
  have hml : h.M.length = h.X.length := List.length_map ..
  unfold upI
  cases ha : atM h.M i with
  | none => exact up_no h i w H (by omega) (atM_none ha)
  | some n =>
    obtain ⟨k, x, rfl, hx, rfl⟩ := atM_at ha
    exact up_any h k x w H hx
def nodeV' (M : List Nd) (i : Int) : Value := match atM M i with
  | none => zeroNode
  | some n => knownV n
def nodeEr (M : List Nd) (i : Int) : Int := match atM M i with
  | none => 2
  | some _ => 0
theorem has_nodeI (i : Int) (h : Has w0 p M w) (hn : 0 < M.length) :
    Calls Tryz.prog 30 #[.pointer (some ⟨p, 0, none⟩), .int .i64 i] w fun e w' => e = .returned (.tuple #[nodeV' M i, .int .i64 (nodeEr M i)]) ∧ Below w.heap.size w w' := by
  obtain ⟨h, rfl, rfl, H, hb, hf⟩ := h
  have hml : h.M.length = h.X.length := List.length_map ..
  unfold nodeV' nodeEr
  cases ha : atM h.M i with
  | none => exact node_no h i w H (by omega) (atM_none ha)
  | some n =>
    obtain ⟨k, x, rfl, hx, rfl⟩ := atM_at ha
    exact node_get h k x w H hx
end
end Go.Proofs.YtknfhphhcnbndaaGreatDoor.V
