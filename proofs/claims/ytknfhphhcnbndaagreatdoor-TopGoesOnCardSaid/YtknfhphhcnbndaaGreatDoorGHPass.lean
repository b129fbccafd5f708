/-
  What path's placeOf, walk.is, and slices.IndexFunc over entries with enter's own test return. Conditions: the walk's box and the file system lie in memory.
  What path's walk.enter returns: to which place a name leads, or the error. Conditions: the walk's box and the file system lie in memory.
  What path's walk.goesThrough and walk.end return. Conditions: the walk's box and the file system lie in memory.
  What path's walk.pass does: a link's names ahead of those that are left, or the error. Conditions: the walk's box and the file system lie in memory; at most 100000 names are left; a link's text is of at most 5000 bytes.
  Links' texts stay short in the model, whatever is changed. Conditions: each fact's own.
-/
import Derived.Test.YtknfhphhcnbndaaGreatDoorGZTabQ
import Derived.Test.YtknfhphhcnbndaaGreatDoorGVMade
import Derived.StillTailTactics
import Derived.Deep.MidRow
import Derived.Deep.CutRange
set_option linter.unusedSimpArgs false
set_option linter.unusedVariables false
namespace Go.Proofs.YtknfhphhcnbndaaGreatDoor.V
open Go.Proofs.YtknfhphhcnbndaaGreatDoor.P
open Go.RowKit

def plV (p : Pl) (hops : Int) : Value := .agg #[.int .i64 p.id, .int .i64 p.dir, .string p.name, .int .i64 hops]
theorem sizePlace : (Tryz.prog.info? 167).map (·.size) = some 4 := by kernel_rfl
theorem sizeWalk : (Tryz.prog.info? 232).map (·.size) = some 11 := by kernel_rfl

set_option maxRecDepth 100000 in
theorem placeOf_any (i : Int) (w : World) :
    Calls Tryz.prog 134 #[.int .i64 i] w fun e w' => e = .returned (plV (plOf i) 0) ∧ Below w.heap.size w w' := by
  go_enter Tryz.func134, Tryz.ntmps134
  go_wp2
  exact bodyPost_ret (v := plV (plOf i) 0) (by simp [results, Tryz.results134, go_sem, plV, plOf]) rfl ⟨rfl, (Below.refl _ _).alloc (Nat.le_refl _) _⟩

/-- Where a walk is. -/
structure St where
  pl : Pl
  hops : Int
  left : List ByteArray
  slash : Bool
def boxOf (p : Nat) (u g : Int) (follow : Bool) (lv : Value) (s : St) : List Value :=
  [.pointer (some ⟨p, 0, none⟩), .int .i64 u, .int .i64 g, .int .i64 s.pl.id, .int .i64 s.pl.dir, .string s.pl.name, .int .i64 0, .int .i64 s.hops, lv, .bool s.slash, .bool follow]
/-- A slice that reads as these names: nil, or within a row of texts. -/
def NRow (w : World) (v : Value) (l : List ByteArray) : Prop := (v = .slice none 0 0 ∧ l = []) ∨ ∃ (A o c : Nat) (cur : Array Value), v = .slice (some ⟨A, o, none⟩) l.length c ∧ l.length ≤ c ∧ c ≤ maxLen ∧ w.heap[A]? = some (.cells cur 9 (0, 0)) ∧ ∀ (k : Nat) (x : ByteArray), l[k]? = some x → cur[o + k]? = some (.string x)
theorem NRow.form {w : World} {v : Value} {l : List ByteArray} (h : NRow w v l) : ∃ o c, v = .slice o l.length c := by
  rcases h with ⟨rfl, rfl⟩ | ⟨A, o, c, cur, rfl, _⟩
  · exact ⟨none, 0, rfl⟩
  · exact ⟨_, _, rfl⟩
theorem NRow.at_ {w w' : World} {v : Value} {l : List ByteArray} (h : NRow w v l) (hk : ∀ (A : Nat) (cur : Array Value), w.heap[A]? = some (.cells cur 9 (0, 0)) → w'.heap[A]? = w.heap[A]?) : NRow w' v l := by
  rcases h with h | ⟨A, o, c, cur, h1, h2, h3, h4, h5⟩
  · exact .inl h
  · exact .inr ⟨A, o, c, cur, h1, h2, h3, (hk A cur h4).trans h4, h5⟩
theorem NRow.keep {w w' : World} {v : Value} {l : List ByteArray} (h : NRow w v l) (hb : Below w.heap.size w w') : NRow w' v l := h.at_ fun A cur hA => hb.block A (heap_lt hA)
theorem NRow.of_owns {w : World} {b : Nat} {v : Value} {l : List ByteArray} (h : w.ownsRow b 9 1 v l.length (strs l)) : NRow w v l := by
  rcases h.2 with ⟨rfl, h0⟩ | ⟨g, cap, cur, rfl, hb, hg, hnc, hcm, hcs, ht⟩
  · exact .inl ⟨rfl, List.eq_nil_of_length_eq_zero h0⟩
  · refine .inr ⟨g, 0, cap, cur, rfl, hnc, hcm, hg, fun k x hx => ?_⟩
    have hkl : k < l.length := (List.getElem?_eq_some_iff.1 hx).1
    have e : (strs l)[k]? = some (.string x) := by unfold strs; rw [List.getElem?_map, hx]; rfl
    rw [← ht, List.getElem?_take] at e
    split at e
    · rw [Nat.zero_add]
      simpa using e
    · cases e
/-- The names but for the first. -/
theorem NRow.cell {w : World} {A o c n : Nat} {l : List ByteArray} (h : NRow w (.slice (some ⟨A, o, none⟩) n c) l) {k : Nat} {x : ByteArray} (hx : l[k]? = some x) : w.cell? ⟨A, o + k, none⟩ = some (.string x) := by
  rcases h with ⟨e, _⟩ | ⟨A', o', c', cur, h1, h2, h3, h4, h5⟩
  · cases e
  · simp only [Value.slice.injEq, Option.some.injEq, Addr.mk.injEq, and_true] at h1
    obtain ⟨⟨rfl, rfl⟩, _, rfl⟩ := h1
    rw [cell_of_row _ _ _ _ _ _ h4]
    exact h5 k x hx
/-- A walk's box at the block B, over the file system at p of the nodes M; nothing behind the row of names but its own. -/
structure Wk (M : List Nd) (p : Nat) (u g : Int) (follow : Bool) (B : Nat) (lv : Value) (s : St) (w : World) : Prop where
  fs : ∃ w0, Has w0 p M w ∧ w0.heap.size ≤ B
  tab : Tab w
  box : w.heap[B]? = some (.cells (boxOf p u g follow lv s).toArray 232 (0, 0))
  left : NRow w lv s.left
theorem Wk.keep {M : List Nd} {p : Nat} {u g : Int} {follow : Bool} {B : Nat} {lv : Value} {s : St} {w w' : World} (h : Wk M p u g follow B lv s w) (hb : Below w.heap.size w w') : Wk M p u g follow B lv s w' := by
  obtain ⟨⟨w0, hf, hB⟩, ht, hx, hl⟩ := h
  exact ⟨⟨w0, hf.keep hb, hB⟩, ht.keep hb, (hb.block _ (heap_lt hx)).trans hx, hl.keep hb⟩
section
variable {M : List Nd} {p : Nat} {u g : Int} {follow : Bool} {B : Nat} {lv : Value} {s : St} {w : World}
theorem Wk.cell (h : Wk M p u g follow B lv s w) {j : Nat} {x : Value} (hj : (boxOf p u g follow lv s)[j]? = some x) : w.cell? ⟨B, j, none⟩ = some x := by
  rw [cell_of_row _ _ _ _ _ _ h.box]
  simpa using hj
theorem Wk.frozen (h : Wk M p u g follow B lv s w) (j : Nat) : w.frozen? ⟨B, j, none⟩ = false := frozen_of_row w B j _ _ h.box
end

set_option maxRecDepth 100000 in
set_option maxHeartbeats 4000000 in
theorem is_any {M : List Nd} {p : Nat} {u g : Int} {follow : Bool} {B : Nat} {lv : Value} {s : St} (w : World) (i k : Int) (h : Wk M p u g follow B lv s w) (hn : 0 < M.length) :
    Calls Tryz.prog 188 #[.pointer (some ⟨B, 0, none⟩), .int .i64 i, .int .i64 k] w fun e w' => e = .returned (.bool (kindM M i == k)) ∧ Below w.heap.size w w' := by
  have c0 := h.cell (j := 0) rfl
  obtain ⟨w0, hf, _⟩ := h.fs
  have HN := Lib.hid (has_nodeI i hf hn)
  rw [nodeV_nv, known_nv] at HN
  have HK := Lib.hid (show kindM M i = (nvAt M i).kind from rfl)
  rw [HK.out]
  clear h hf
  go_enter Tryz.func188, Tryz.ntmps188
  go_wp2_with (go_at_call 30; refine HN.out.mono ?_; rintro e w2 ⟨rfl, hb⟩; have HB := Lib.hid hb; clear hb)
  go_ret
  exact ⟨rfl, HB.out.alloc HB.out.size _⟩

/-- The place of the first entry of a name; -1. -/
def idxE (s : ByteArray) : List (ByteArray × Int) → Nat → Int
  | [], _ => -1
  | x :: r, k => if sameT x.1 s = true then (k : Int) else idxE s r (k + 1)
theorem idx_find (s : ByteArray) : ∀ (l : List (ByteArray × Int)) (k : Nat), (idxE s l k = -1 ∧ findE s l = none) ∨ ∃ (i : Nat) (x : ByteArray × Int), idxE s l k = ((k + i : Nat) : Int) ∧ l[i]? = some x ∧ findE s l = some x.2
  | [], k => .inl ⟨rfl, rfl⟩
  | x :: r, k => by
    unfold idxE findE
    by_cases h : sameT x.1 s = true
    · rw [if_pos h, if_pos h]
      exact .inr ⟨0, x, rfl, rfl, rfl⟩
    · rw [if_neg h, if_neg h]
      rcases idx_find s r (k + 1) with q | ⟨i, y, h1, h2, h3⟩
      · exact .inl q
      · exact .inr ⟨i + 1, y, by rw [h1]; congr 1; omega, h2, h3⟩
set_option maxRecDepth 100000 in
theorem test_any (b : Nat) (s nm : ByteArray) (i : Int) (w : World) (h : w.heap[b]? = some (.cells #[.string s] 9 (0, 0))) :
    Calls Tryz.prog 191 #[.agg #[.string nm, .int .i64 i], .pointer (some ⟨b, 0, none⟩)] w fun e w' => e = .returned (.bool (sameT nm s)) ∧ Below w.heap.size w w' := by
  have c0 : ∀ o, (w.alloc o).cell? ⟨b, 0, none⟩ = some (.string s) := fun o => by
    rw [World.cell?_alloc_past _ _ _ (heap_lt h), cell_of_row _ _ _ _ _ _ h]
    rfl
  go_enter Tryz.func191, Tryz.ntmps191
  go_wp2
  go_ret
  exact ⟨rfl, (Below.refl _ _).alloc (Nat.le_refl _) _⟩
def IdxRel (s : ByteArray) (l : List (ByteArray × Int)) (w : World) (v : Value) (wr : World) : Prop := ∃ k : Nat, k ≤ l.length ∧ v = .int .i64 (k : Int) ∧ Hid (Below w.heap.size w wr) ∧ Hid (idxE s l 0 = idxE s (l.drop k) k)
set_option maxRecDepth 100000 in
set_option maxHeartbeats 4000000 in
theorem index_any (v : Value) (l : List (ByteArray × Int)) (b : Nat) (s : ByteArray) (w : World) (H : w.ownsRow 0 177 2 v l.length (entCells l)) (hB : w.heap[b]? = some (.cells #[.string s] 9 (0, 0))) (hl : l.length ≤ 1000000) :
    Calls Tryz.prog 190 #[v, .func (.func 191) #[] #[.pointer (some ⟨b, 0, none⟩)]] w fun e w' => e = .returned (.int .i64 (idxE s l 0)) ∧ Below w.heap.size w w' := by
  obtain ⟨o, c, rfl⟩ := owns_form H
  have HO := Lib.hid H
  have HX := Lib.hid hB
  clear H hB
  go_enter Tryz.func190, Tryz.ntmps190
  go_wp2_with fail
  go_loopw [8] (IdxRel s l w) (fun v _ => l.length - (intOf v).toNat)
  case atStart => exact ⟨0, Nat.zero_le _, rfl, Lib.hid (Below.refl _ _), Lib.hid rfl⟩
  case round =>
    obtain ⟨k, hk, rfl, HB, HI⟩ := hrel
    by_cases hlt : k < l.length
    · have e1 : decide ((k : Int) < (l.length : Int)) = true := decide_eq_true (by omega)
      obtain ⟨x, hx⟩ : ∃ x, l[k]? = some x := ⟨_, List.getElem?_eq_getElem hlt⟩
      have hd : l.drop k = x :: l.drop (k + 1) := by
        rw [List.drop_eq_getElem_cons hlt]
        congr 1
        have := List.getElem?_eq_getElem hlt
        rw [hx] at this
        exact (Option.some.inj this).symm
      have HOr := Lib.hid (owns_keep HO.out HB.out)
      obtain ⟨gg, cg, e2, _, _⟩ := owns_some HOr.out (by omega)
      simp only [Value.slice.injEq] at e2
      obtain ⟨rfl, _, rfl⟩ := e2
      have a0 : wr.cell? ⟨gg, k * 2, none⟩ = some (.string x.1) := owns_cell HOr.out (entCells_get l k x hx).1
      have a1 : wr.cell? ⟨gg, k * 2 + 1, none⟩ = some (.int .i64 x.2) := owns_cell HOr.out (entCells_get l k x hx).2
      have HT := Lib.hid (test_any b s x.1 x.2 wr ((HB.out.block _ (heap_lt HX.out)).trans HX.out))
      have HI2 := Lib.hid (show idxE s l 0 = if sameT x.1 s = true then (k : Int) else idxE s (l.drop (k + 1)) (k + 1) from by rw [HI.out, hd, idxE])
      clear hx hd HI
      cases hs : sameT x.1 s with
      | true =>
        rw [hs] at HT HI2
        clear hs
        go_wp2_with (refine HT.out.mono ?_; rintro e w2 ⟨rfl, hb⟩; have HB2 := Lib.hid (below_two HB.out hb); clear hb)
        go_ret
        exact ⟨ret_int (by rw [HI2.out]; rfl), HB2.out⟩
      | false =>
        rw [hs] at HT HI2
        clear hs
        go_wp2_with (refine HT.out.mono ?_; rintro e w2 ⟨rfl, hb⟩; have HB2 := Lib.hid (below_two HB.out hb); clear hb)
        go_roundw
        case rel => exact ⟨k + 1, by omega, by simp, HB2, Lib.hid (by rw [HI2.out]; rfl)⟩
        case measure => simp [intOf]; omega
    · have e1 : decide ((k : Int) < (l.length : Int)) = false := decide_eq_false (by omega)
      have HR := Lib.hid (show idxE s l 0 = -1 from by rw [HI.out, List.drop_of_length_le (by omega)]; rfl)
      go_wp2_with fail
      go_ret
      exact ⟨ret_int HR.out.symm, HB.out⟩
end Go.Proofs.YtknfhphhcnbndaaGreatDoor.V

namespace Go.Proofs.YtknfhphhcnbndaaGreatDoor.V
open Go.Proofs.YtknfhphhcnbndaaGreatDoor.P
open Go.RowKit

theorem howns_zero {w : World} {b : Nat} {e : TypeId} {size n : Nat} {v : Value} {xs : List Value} (h : w.ownsRow b e size v n xs) : w.ownsRow 0 e size v n xs := by
  refine ⟨h.1, ?_⟩
  rcases h.2 with q | ⟨g, cap, cur, hv, hb, rest⟩
  · exact .inl q
  · exact .inr ⟨g, cap, cur, hv, Nat.zero_le _, rest⟩
theorem hlistL_len {M : List Nd} {i : Int} (h : FewE M) : (listL M i).length ≤ 1000000 := by
  unfold listL
  cases ha : atM M i with
  | none => exact Nat.zero_le _
  | some n =>
    obtain ⟨k, _, hn⟩ := atM_some ha
    have := h n (List.mem_of_getElem? hn)
    dsimp only
    repeat' split
    all_goals first | exact Nat.zero_le _ | exact this
def zeroPl : Pl := ⟨0, 0, ⟨#[]⟩⟩
def plC (p : Pl) (hops : Int) : Array Value := #[.int .i64 p.id, .int .i64 p.dir, .string p.name, .int .i64 hops]
theorem plC_one (p : Pl) (h : Int) : (plC p h).all (·.oneCell') = true := by simp [plC, Value.oneCell']
theorem plV_C (p : Pl) (h : Int) : plV p h = .agg (plC p h) := rfl
def entV : Except Int Pl → Value
  | .ok q => .tuple #[plV q 0, .int .i64 0]
  | .error e => .tuple #[plV zeroPl 0, .int .i64 e]
/-- What the walk knows behind the boxes: the walk's own, the name's, the result's. -/
structure EIn (M : List Nd) (p : Nat) (u g : Int) (follow : Bool) (B : Nat) (lv : Value) (s : St) (nm : ByteArray) (w0 w : World) : Prop where
  wk : Wk M p u g follow B lv s w
  nbox : w.heap[w0.heap.size]? = some (.cells #[.string nm] 9 (0, 0))
  res : w.heap[w0.heap.size + 1]? = some (.cells (plC zeroPl 0) 167 (0, 0))
  below : Below w0.heap.size w0 w
section
variable {M : List Nd} {p : Nat} {u g : Int} {follow : Bool} {B : Nat} {lv : Value} {s : St} {nm : ByteArray} {w0 w w' : World}
theorem EIn.keep (h : EIn M p u g follow B lv s nm w0 w) (hb : Below w.heap.size w w') : EIn M p u g follow B lv s nm w0 w' :=
  ⟨h.wk.keep hb, (hb.block _ (heap_lt h.nbox)).trans h.nbox, (hb.block _ (heap_lt h.res)).trans h.res, below_two h.below hb⟩
theorem EIn.name (h : EIn M p u g follow B lv s nm w0 w) : w.cell? ⟨w0.heap.size, 0, none⟩ = some (.string nm) := by rw [cell_of_row _ _ _ _ _ _ h.nbox]; rfl
/-- How every way ends: a place stored, and an error's number. -/
theorem EIn.fin (h : EIn M p u g follow B lv s nm w0 w) (q : Pl) (e : Int) {RV : Value} (hR : RV = .tuple #[plV q 0, .int .i64 e]) (tmps : Array Value) (h4 : tmps.getD 4 undef = .pointer (some ⟨w0.heap.size + 1, 0, none⟩)) (h5 : tmps.getD 5 undef = .int .i64 e) :
    bodyPost Tryz.prog Tryz.f137 (fun e' w' => e' = .returned RV ∧ Below w0.heap.size w0 w') Exit.ret { tmps := tmps, defers := [] } (w.setRow (w0.heap.size + 1) (plC q 0)) := by
  subst hR
  refine bodyPost_ret (v := .tuple #[plV q 0, .int .i64 e]) ?_ rfl ⟨rfl, (but_setRow h.res _).below h.below (by omega) h.below.size⟩
  rw [results_cell_tmp Tryz.results137]
  have hl := run_loadVar_row (P := Tryz.prog) (w.setRow (w0.heap.size + 1) (plC q 0)) (w0.heap.size + 1) 167 167 (plC q 0) (0, 0) _ (setRow_heap _ _ _ _ _ _ h.res) Tryz.underlying167 rfl (by rw [sizePlace]; rfl)
  simp [asAddr, h4, h5, hl, Result.andThen, plV_C]
end

set_option maxRecDepth 100000 in
set_option maxHeartbeats 8000000 in
theorem wenter_any {M : List Nd} {p : Nat} {u g : Int} {follow : Bool} {B : Nat} {lv : Value} {s : St} (nm : ByteArray) (w : World) (h : Wk M p u g follow B lv s w) (hn : 0 < M.length) (hE : FewE M) :
    Calls Tryz.prog 137 #[.pointer (some ⟨B, 0, none⟩), .string nm] w fun e w' => e = .returned (entV (entW M u g s.pl.id nm)) ∧ Below w.heap.size w w' := by
  have HI := Lib.hid (show EIn M p u g follow B lv s nm w ((w.alloc (.cells #[.string nm] 9)).alloc (.cells (plC zeroPl 0) 167)) from by
    have hb1 := (Below.refl w.heap.size w).alloc (Nat.le_refl _) (.cells #[.string nm] 9)
    have hb2 := (Below.refl (w.alloc (.cells #[.string nm] 9)).heap.size (w.alloc (.cells #[.string nm] 9))).alloc (Nat.le_refl _) (.cells (plC zeroPl 0) 167)
    refine ⟨(h.keep hb1).keep hb2, ?_, ?_, below_two hb1 hb2⟩
    · rw [hb2.block _ (by simp)]
      exact heap_alloc_new _ _
    · have := heap_alloc_new (w.alloc (.cells #[.string nm] 9)) (.cells (plC zeroPl 0) 167)
      simpa using this)
  have HNd := Lib.hid (fun (W : World) (hf : ∃ w0, Has w0 p M W ∧ w0.heap.size ≤ B) => Exists.elim hf fun _ hf => has_nodeI s.pl.id hf.1 hn)
  simp only [nodeV_nv, known_nv] at HNd
  obtain ⟨RV, hRV⟩ : ∃ r, entV (entW M u g s.pl.id nm) = r := ⟨_, rfl⟩
  rw [hRV]
  unfold entW at hRV
  rw [show kindM M s.pl.id = (nvAt M s.pl.id).kind from rfl] at hRV
  generalize nvAt M s.pl.id = N at HNd hRV
  have HRV := Lib.hid hRV
  clear h hRV
  unfold plC zeroPl at HI
  go_enter Tryz.func137, Tryz.ntmps137
  go_upto_region 1 with fail
  generalize (w.alloc (.cells #[.string nm] 9)).alloc (.cells #[.int .i64 0, .int .i64 0, .string ⟨#[]⟩, .int .i64 0] 167) = w2 at HI ⊢
  have c3 := HI.out.wk.cell (j := 3) rfl
  have c0 := HI.out.wk.cell (j := 0) rfl
  have HN := Lib.hid (HNd.out _ HI.out.wk.fs)
  clear HNd
  go_upto_region 3 with (go_at_call 30; refine HN.out.mono ?_; rintro e w3 ⟨rfl, hb⟩; have HB := Lib.hid hb; clear hb)
  have HI3 := Lib.hid (HI.out.keep HB.out)
  clear HN HB HI c0 c3
  have HI4 := Lib.hid (HI3.out.keep ((Below.refl _ _).alloc (Nat.le_refl _) (.cells #[.int .i64 N.dev, .int .i64 N.ino, .int .i64 N.kind, .int .i64 N.mode, .int .i64 N.uid, .int .i64 N.gid, .int .i64 N.size, .int .i64 N.blocks, .int .i64 N.links, .int .i64 N.ta, .int .i64 N.tb, .int .i64 N.tc, .string N.target] 66)))
  have HX4 := Lib.hid (heap_alloc_new w3 (.cells #[.int .i64 N.dev, .int .i64 N.ino, .int .i64 N.kind, .int .i64 N.mode, .int .i64 N.uid, .int .i64 N.gid, .int .i64 N.size, .int .i64 N.blocks, .int .i64 N.links, .int .i64 N.ta, .int .i64 N.tb, .int .i64 N.tc, .string N.target] 66))
  have k2c : (w3.alloc (.cells #[.int .i64 N.dev, .int .i64 N.ino, .int .i64 N.kind, .int .i64 N.mode, .int .i64 N.uid, .int .i64 N.gid, .int .i64 N.size, .int .i64 N.blocks, .int .i64 N.links, .int .i64 N.ta, .int .i64 N.tb, .int .i64 N.tc, .string N.target] 66)).cell? ⟨w3.heap.size, 2, none⟩ = some (.int .i64 N.kind) := by rw [cell_of_row _ _ _ _ _ _ HX4.out]; rfl
  generalize w3.alloc (.cells #[.int .i64 N.dev, .int .i64 N.ino, .int .i64 N.kind, .int .i64 N.mode, .int .i64 N.uid, .int .i64 N.gid, .int .i64 N.size, .int .i64 N.blocks, .int .i64 N.links, .int .i64 N.ta, .int .i64 N.tb, .int .i64 N.tc, .string N.target] 66) = w4 at HI4 HX4 k2c ⊢
  generalize w3.heap.size = B4 at HX4 k2c ⊢
  clear HI3
  by_cases hk : N.kind = 2
  · rw [if_pos hk] at HRV
    have kb : (N.kind != 2) = false := by rw [hk]; rfl
    clear hk
    go_upto_region 5 with fail
    have e0 : w4.cell? ⟨B4, 0, none⟩ = some (.int .i64 N.dev) := by rw [cell_of_row _ _ _ _ _ _ HX4.out]; rfl
    have e1 : w4.cell? ⟨B4, 1, none⟩ = some (.int .i64 N.ino) := by rw [cell_of_row _ _ _ _ _ _ HX4.out]; rfl
    have e3 : w4.cell? ⟨B4, 3, none⟩ = some (.int .i64 N.mode) := by rw [cell_of_row _ _ _ _ _ _ HX4.out]; rfl
    have e4 : w4.cell? ⟨B4, 4, none⟩ = some (.int .i64 N.uid) := by rw [cell_of_row _ _ _ _ _ _ HX4.out]; rfl
    have e5 : w4.cell? ⟨B4, 5, none⟩ = some (.int .i64 N.gid) := by rw [cell_of_row _ _ _ _ _ _ HX4.out]; rfl
    have e6 : w4.cell? ⟨B4, 6, none⟩ = some (.int .i64 N.size) := by rw [cell_of_row _ _ _ _ _ _ HX4.out]; rfl
    have e7 : w4.cell? ⟨B4, 7, none⟩ = some (.int .i64 N.blocks) := by rw [cell_of_row _ _ _ _ _ _ HX4.out]; rfl
    have e8 : w4.cell? ⟨B4, 8, none⟩ = some (.int .i64 N.links) := by rw [cell_of_row _ _ _ _ _ _ HX4.out]; rfl
    have e9 : w4.cell? ⟨B4, 9, none⟩ = some (.int .i64 N.ta) := by rw [cell_of_row _ _ _ _ _ _ HX4.out]; rfl
    have e10 : w4.cell? ⟨B4, 10, none⟩ = some (.int .i64 N.tb) := by rw [cell_of_row _ _ _ _ _ _ HX4.out]; rfl
    have e11 : w4.cell? ⟨B4, 11, none⟩ = some (.int .i64 N.tc) := by rw [cell_of_row _ _ _ _ _ _ HX4.out]; rfl
    have e12 : w4.cell? ⟨B4, 12, none⟩ = some (.string N.target) := by rw [cell_of_row _ _ _ _ _ _ HX4.out]; rfl
    have c1 : w4.cell? ⟨B, 1, none⟩ = some (.int .i64 u) := HI4.out.wk.cell (j := 1) rfl
    have c2 : w4.cell? ⟨B, 2, none⟩ = some (.int .i64 g) := HI4.out.wk.cell (j := 2) rfl
    go_still_tail 5, (by kernel_rfl)
    change wpList _ _ _ _ _ w4.drew
    clear e0 e1 e3 e4 e5 e6 e7 e8 e9 e10 e11 e12 c1 c2 k2c
    have HI5 := Lib.hid (HI4.out.keep (below_drewN' (n := 1) (Below.refl _ _)))
    have HM := Lib.hid (may_any N u g 1 w4.drew HI5.out.wk.tab)
    rw [known_nv] at HM
    unfold credV at HM
    clear HX4 HI4
    change Hid (EIn M p u g follow B lv s nm w w4.drew) at HI5
    generalize w4.drew = w5 at HI5 HM ⊢
    cases hm : mayB (bitsP N u g) 1 with
    | false =>
      rw [hm, if_neg (by simp)] at HRV
      rw [hm] at HM
      clear hm
      go_wp2_with (first
        | (go_at_call 168; refine HM.out.mono ?_; rintro e w6 ⟨rfl, hb⟩; have HI6 := Lib.hid (HI5.out.keep hb); clear hb)
        | (refine wpList_store_row rfl 167 (.tmp 4) (.tmp 39) rfl (w.heap.size + 1) (plC zeroPl 0) rfl rfl _ _ HI6.out.res (by rw [sizePlace]; rfl) rfl (plC_one _ _) ?_))
      exact HI6.out.fin zeroPl 5 HRV.out.symm _ rfl rfl
    | true =>
      rw [hm, if_pos rfl] at HRV
      rw [hm] at HM
      clear hm
      go_upto_region 7 with (first
        | (go_at_call 168; refine HM.out.mono ?_; rintro e w6 ⟨rfl, hb⟩; have HI6 := Lib.hid (HI5.out.keep hb); clear hb))
      clear HM HI5
      have cn := HI6.out.name
      by_cases hs : nm.size ≤ 255
      · rw [if_pos hs] at HRV
        have ds : decide ((255 : Int) < (nm.size : Int)) = false := decide_eq_false (by omega)
        clear hs
        by_cases h1 : nm.toList = [46]
        · rw [if_pos h1] at HRV
          go_upto_region 10 with fail
          clear h1
          have HP := Lib.hid (placeOf_any s.pl.id w6)
          unfold plV at HP
          go_wp2_with (first
            | (go_at_call 134; refine HP.out.mono ?_; rintro e w7 ⟨rfl, hb⟩; have HI7 := Lib.hid (HI6.out.keep hb); clear hb)
            | (refine wpList_store_row rfl 167 (.tmp 4) (.tmp 49) rfl (w.heap.size + 1) (plC (plOf s.pl.id) 0) rfl rfl _ _ HI7.out.res (by rw [sizePlace]; rfl) rfl (plC_one _ _) ?_))
          exact HI7.out.fin (plOf s.pl.id) 0 HRV.out.symm _ rfl rfl
        · rw [if_neg h1] at HRV
          by_cases h2 : nm.toList = [46, 46]
          · rw [if_pos h2] at HRV
            go_upto_region 12 with fail
            clear h1 h2
            have c0 := HI6.out.wk.cell (j := 0) rfl
            have HId := Lib.hid (show EIn M p u g follow B lv s nm w w6.drew from HI6.out.keep (below_drewN' (n := 1) (Below.refl _ _)))
            have HUp := Lib.hid (Exists.elim HId.out.wk.fs fun _ hf => (has_up s.pl.id hf.1 hn).mono fun _ _ q => And.intro q.1 q.2.symm)
            have HOv := Lib.hid (Exists.elim HId.out.wk.fs fun _ hf => (has_over (upI M s.pl.id) hf.1 hn).mono fun _ _ q => And.intro q.1 q.2.symm)
            have HP := Lib.hid (placeOf_any (overI M (upI M s.pl.id)) w6.drew)
            unfold plV at HP
            go_still_tail 11, (by kernel_rfl)
            still_call HUp.out
            repeat still_step
            still_call HOv.out
            repeat still_step
            refine wpStill_nil ?_
            change wpList _ _ _ _ _ w6.drew
            clear HUp HOv HI6 c0 cn
            generalize w6.drew = w7 at HId HP ⊢
            go_wp2_with (first
              | (go_at_call 134; refine HP.out.mono ?_; rintro e w8 ⟨rfl, hb⟩; have HI8 := Lib.hid (HId.out.keep hb); clear hb)
              | (refine wpList_store_row rfl 167 (.tmp 4) (.tmp 64) rfl (w.heap.size + 1) (plC (plOf (overI M (upI M s.pl.id))) 0) rfl rfl _ _ HI8.out.res (by rw [sizePlace]; rfl) rfl (plC_one _ _) ?_))
            exact HI8.out.fin (plOf (overI M (upI M s.pl.id))) 0 HRV.out.symm _ rfl rfl
          · rw [if_neg h2] at HRV
            have n1 : (nm.toList == [46]) = false := by simpa using h1
            have n2 : (nm.toList == [46, 46]) = false := by simpa using h2
            clear h1 h2
            go_upto_region 13 with fail
            have c0 := HI6.out.wk.cell (j := 0) rfl
            have HL := Lib.hid (Exists.elim HI6.out.wk.fs fun _ hf => has_list s.pl.id hf.1 hn hE)
            by_cases h0 : listE M s.pl.id = 0
            · rw [if_pos h0] at HRV
              rw [h0] at HL
              clear h0
              go_upto_region 16 with (go_at_call 167; refine HL.out.mono ?_; rintro e w7 ⟨lx, rfl, ho, hb⟩; have HI7 := Lib.hid (HI6.out.keep hb); have HO7 := Lib.hid (howns_zero ho); clear hb ho)
              have hll := hlistL_len (i := s.pl.id) hE
              obtain ⟨l, hle⟩ : ∃ l, listL M s.pl.id = l := ⟨_, rfl⟩
              rw [hle] at HO7 hll HRV
              clear hle HI6 c0 cn HL
              have HX := Lib.hid (index_any lx l w.heap.size nm w7 HO7.out HI7.out.nbox hll)
              rcases idx_find nm l 0 with ⟨hi1, hi2⟩ | ⟨i, x, hi1, hi2, hi3⟩
              · rw [hi2] at HRV
                rw [hi1] at HX
                clear hi1 hi2
                go_wp2_with (first
                  | (go_at_call 190; refine HX.out.mono ?_; rintro e w8 ⟨rfl, hb⟩; have HI8 := Lib.hid (HI7.out.keep hb); clear hb)
                  | (refine wpList_store_row rfl 167 (.tmp 4) (.tmp 83) rfl (w.heap.size + 1) (plC zeroPl 0) rfl rfl _ _ HI8.out.res (by rw [sizePlace]; rfl) rfl (plC_one _ _) ?_))
                exact HI8.out.fin zeroPl 2 HRV.out.symm _ rfl rfl
              · rw [hi3] at HRV
                rw [hi1, Nat.zero_add] at HX
                have hil : i < l.length := (List.getElem?_eq_some_iff.1 hi2).1
                have HXi := Lib.hid hi2
                clear hi1 hi2 hi3
                go_upto_region 19 with (go_at_call 190; refine HX.out.mono ?_; rintro e w8 ⟨rfl, hb⟩; have HI8 := Lib.hid (HI7.out.keep hb); have HO8 := Lib.hid (owns_keep HO7.out hb); clear hb)
                obtain ⟨gg, cg, e2, _, _⟩ := owns_some HO8.out (by omega)
                subst e2
                have a1 : w8.cell? ⟨gg, i * 2 + 1, none⟩ = some (.int .i64 x.2) := owns_cell HO8.out (entCells_get l i x HXi.out).2
                have c0 := HI8.out.wk.cell (j := 0) rfl
                have cn := HI8.out.name
                have HId := Lib.hid (show EIn M p u g follow B lv s nm w w8.drew from HI8.out.keep (below_drewN' (n := 1) (Below.refl _ _)))
                have HOv := Lib.hid (Exists.elim HId.out.wk.fs fun _ hf => (has_over x.2 hf.1 hn).mono fun _ _ q => And.intro q.1 q.2.symm)
                clear HI7 HO7 HX
                go_still_tail 13, (by kernel_rfl)
                still_call HOv.out
                repeat still_step
                refine wpStill_nil ?_
                change wpList _ _ _ _ _ w8.drew
                clear HOv HI8 HO8 a1 c0 cn
                generalize w8.drew = w9 at HId ⊢
                go_wp2_with (refine wpList_store_row rfl 167 (.tmp 4) (.tmp 96) rfl (w.heap.size + 1) (plC ⟨overI M x.2, s.pl.id, nm⟩ 0) rfl rfl _ _ HId.out.res (by rw [sizePlace]; rfl) rfl (plC_one _ _) ?_)
                exact HId.out.fin ⟨overI M x.2, s.pl.id, nm⟩ 0 HRV.out.symm _ rfl rfl
            · rw [if_neg h0] at HRV
              have e0 : (listE M s.pl.id != 0) = true := by simpa using h0
              clear h0
              go_wp2_with (first
                | (go_at_call 167; refine HL.out.mono ?_; rintro e w7 ⟨lx, rfl, ho, hb⟩; have HI7 := Lib.hid (HI6.out.keep hb); clear hb ho)
                | (refine wpList_store_row rfl 167 (.tmp 4) (.tmp 76) rfl (w.heap.size + 1) (plC zeroPl 0) rfl rfl _ _ HI7.out.res (by rw [sizePlace]; rfl) rfl (plC_one _ _) ?_))
              exact HI7.out.fin zeroPl (listE M s.pl.id) HRV.out.symm _ rfl rfl
      · rw [if_neg hs] at HRV
        have ds : decide ((255 : Int) < (nm.size : Int)) = true := decide_eq_true (by omega)
        clear hs
        go_wp2_with (refine wpList_store_row rfl 167 (.tmp 4) (.tmp 44) rfl (w.heap.size + 1) (plC zeroPl 0) rfl rfl _ _ HI6.out.res (by rw [sizePlace]; rfl) rfl (plC_one _ _) ?_)
        exact HI6.out.fin zeroPl 7 HRV.out.symm _ rfl rfl
  · rw [if_neg hk] at HRV
    have kb : (N.kind != 2) = true := by simpa using hk
    clear hk
    go_wp2_with (refine wpList_store_row rfl 167 (.tmp 4) (.tmp 30) rfl (w.heap.size + 1) (plC zeroPl 0) rfl rfl _ _ HI4.out.res (by rw [sizePlace]; rfl) rfl (plC_one _ _) ?_)
    exact HI4.out.fin zeroPl 3 HRV.out.symm _ rfl rfl
end Go.Proofs.YtknfhphhcnbndaaGreatDoor.V

namespace Go.Proofs.YtknfhphhcnbndaaGreatDoor.V
open Go.Proofs.YtknfhphhcnbndaaGreatDoor.P
open Go.RowKit

set_option maxRecDepth 100000 in
set_option maxHeartbeats 4000000 in
theorem wthru_any {M : List Nd} {p : Nat} {u g : Int} {follow : Bool} {B : Nat} {lv : Value} {s : St} (i : Int) (w : World) (h : Wk M p u g follow B lv s w) (hn : 0 < M.length) (hl : s.left.length ≤ 1000000) :
    Calls Tryz.prog 138 #[.pointer (some ⟨B, 0, none⟩), .int .i64 i] w fun e w' => e = .returned (.bool (thruW M follow s.slash s.left i)) ∧ Below w.heap.size w w' := by
  have HT := Lib.hid (show thruW M follow s.slash s.left i = (kindM M i == 3 && (follow || (s.slash || decide (0 < s.left.length)))) from rfl)
  have HIs := Lib.hid (is_any w i 3 h hn)
  obtain ⟨a, c, hlv⟩ := h.left.form
  subst hlv
  have HC := Lib.hid (show ∀ W, Below w.heap.size w W → W.cell? ⟨B, 8, none⟩ = some (.slice a s.left.length c) ∧ W.cell? ⟨B, 9, none⟩ = some (.bool s.slash) ∧ W.cell? ⟨B, 10, none⟩ = some (.bool follow) from fun W hb => ⟨(h.keep hb).cell (j := 8) rfl, (h.keep hb).cell (j := 9) rfl, (h.keep hb).cell (j := 10) rfl⟩)
  clear h
  cases hk : (kindM M i == 3) with
  | false =>
    rw [hk] at HIs HT
    clear hk
    go_enter Tryz.func138, Tryz.ntmps138
    go_wp2_with (go_at_call 188; refine HIs.out.mono ?_; rintro e w2 ⟨rfl, hb⟩; have HB := Lib.hid hb; clear hb)
    go_ret
    exact ⟨ret_bool (by rw [HT.out]; rfl), HB.out⟩
  | true =>
    rw [hk] at HIs HT
    clear hk
    go_enter Tryz.func138, Tryz.ntmps138
    go_wp2_with fail
    refine HIs.out.mono ?_
    rintro e w2 ⟨rfl, hb⟩
    have HB := Lib.hid hb
    clear hb
    obtain ⟨c8, c9, c10⟩ := HC.out _ HB.out
    cases follow with
    | true =>
      go_wp2_with fail
      go_ret
      exact ⟨ret_bool (by rw [HT.out]; rfl), HB.out⟩
    | false =>
      cases hs : s.slash with
      | true =>
        rw [hs] at c9
        have HS := Lib.hid hs
        clear hs
        go_wp2_with fail
        go_ret
        exact ⟨ret_bool (by rw [HT.out, HS.out]; rfl), HB.out⟩
      | false =>
        rw [hs] at c9
        have HS := Lib.hid hs
        clear hs
        by_cases h0 : 0 < s.left.length
        · have d0 : decide ((0 : Int) < (s.left.length : Int)) = true := decide_eq_true (by omega)
          have HD := Lib.hid (show decide (0 < s.left.length) = true from decide_eq_true h0)
          go_wp2_with fail
          go_ret
          exact ⟨ret_bool (by rw [HT.out, HS.out, HD.out]; rfl), HB.out⟩
        · have d0 : decide ((0 : Int) < (s.left.length : Int)) = false := decide_eq_false (by omega)
          have HD := Lib.hid (show decide (0 < s.left.length) = false from decide_eq_false h0)
          go_wp2_with fail
          go_ret
          exact ⟨ret_bool (by rw [HT.out, HS.out, HD.out]; rfl), HB.out⟩

/-- An end of a walk, as the call returns it. -/
def resV (r : Res) : Value := .tuple #[plV r.pl r.hops, .int .i64 r.err]
theorem but_end {w W : World} {B : Nat} (hb : Below w.heap.size w W) (hB : B < w.heap.size) (x : Value) {old : Array Value} {T : TypeId} (hX : W.heap[w.heap.size]? = some (.cells old T (0, 0))) (cs : Array Value) : But B w ((W.setCell ⟨B, 6, none⟩ x).setRow w.heap.size cs) := by
  have h1 := but_setCell W B 6 x
  have h2 : (W.setCell ⟨B, 6, none⟩ x).heap[w.heap.size]? = some (.cells old T (0, 0)) := (h1.block _ (heap_lt hX) (by omega)).trans hX
  have h3 := but_setRow h2 cs
  refine ⟨h3.os.trans (h1.os.trans hb.os), h3.tape.trans (h1.tape.trans hb.tape), h3.output.trans (h1.output.trans hb.output), Nat.le_trans hb.size (Nat.le_trans h1.size h3.size), fun k hk hn => ?_⟩
  have hks := hb.size
  have hk1 := h1.size
  rw [h3.block k (by omega) (by omega), h1.block k (by omega) hn, hb.block k hk]
theorem but_of_row {w W : World} {B : Nat} (hb : Below w.heap.size w W) {old : Array Value} {T : TypeId} (hX : W.heap[w.heap.size]? = some (.cells old T (0, 0))) (cs : Array Value) : But B w (W.setRow w.heap.size cs) := by
  have h3 := but_setRow hX cs
  refine ⟨h3.os.trans hb.os, h3.tape.trans hb.tape, h3.output.trans hb.output, Nat.le_trans hb.size h3.size, fun k hk hn => ?_⟩
  have hks := hb.size
  rw [h3.block k (by omega) (by omega), hb.block k hk]
theorem end_post {RV : Value} {w W : World} {B : Nat} {q : Pl} {hp e : Int} (hR : RV = .tuple #[plV q hp, .int .i64 e]) (hX : W.heap[w.heap.size]? = some (.cells (plC q hp) 167 (0, 0))) (hb : But B w W) (tmps : Array Value) (h2 : tmps.getD 2 undef = .pointer (some ⟨w.heap.size, 0, none⟩)) (h3 : tmps.getD 3 undef = .int .i64 e) :
    bodyPost Tryz.prog Tryz.f136 (fun e' w' => e' = .returned RV ∧ But B w w') Exit.ret { tmps := tmps, defers := [] } W := by
  subst hR
  refine bodyPost_ret (v := .tuple #[plV q hp, .int .i64 e]) ?_ rfl ⟨rfl, hb⟩
  rw [results_cell_tmp Tryz.results136]
  have hl := run_loadVar_row (P := Tryz.prog) W w.heap.size 167 167 (plC q hp) (0, 0) _ hX Tryz.underlying167 rfl (by rw [sizePlace]; rfl)
  simp [asAddr, h2, h3, hl, Result.andThen, plV_C]
set_option maxRecDepth 100000 in
set_option maxHeartbeats 4000000 in
theorem wend_any {M : List Nd} {p : Nat} {u g : Int} {follow : Bool} {B : Nat} {lv : Value} {s : St} (w : World) (h : Wk M p u g follow B lv s w) (hn : 0 < M.length) :
    Calls Tryz.prog 136 #[.pointer (some ⟨B, 0, none⟩)] w fun e w' => e = .returned (resV (endW M s.slash s.pl s.hops)) ∧ But B w w' := by
  have hk : ∀ o, Below w.heap.size w (w.alloc o) := fun o => (Below.refl _ _).alloc (Nat.le_refl _) _
  have HWk := Lib.hid (show ∀ W, Below w.heap.size w W → Wk M p u g follow B lv s W from fun W hb => h.keep hb)
  have HBl := Lib.hid (heap_lt h.box)
  obtain ⟨RV, hRV⟩ : ∃ r, resV (endW M s.slash s.pl s.hops) = r := ⟨_, rfl⟩
  rw [hRV]
  unfold endW at hRV
  have HRV := Lib.hid hRV
  have HK := Lib.hid hk
  clear h hRV hk
  go_enter Tryz.func136, Tryz.ntmps136
  go_upto_region 1 with fail
  have HB1 := Lib.hid (HK.out (.cells (plC zeroPl 0) 167))
  have HX1 := Lib.hid (heap_alloc_new w (.cells (plC zeroPl 0) 167))
  unfold plC zeroPl at HB1 HX1
  generalize w.alloc _ = w1 at HB1 HX1 ⊢
  have HW1 := Lib.hid (HWk.out _ HB1.out)
  have c9 := HW1.out.cell (j := 9) rfl
  have c3 := HW1.out.cell (j := 3) rfl
  have HIs := Lib.hid (is_any w1 s.pl.id 2 HW1.out hn)
  cases hs : s.slash with
  | false =>
    rw [hs] at c9 HRV
    rw [if_neg (by simp)] at HRV
    clear hs
    have HB2 := HB1
    have HX2 := HX1
    have HWx := HW1
    clear c3 HIs
    generalize w1 = w2 at *
    have HW2 := Lib.hid (HWk.out _ HB2.out)
    have d3 := HW2.out.cell (j := 3) rfl
    have d4 := HW2.out.cell (j := 4) rfl
    have d5 := HW2.out.cell (j := 5) rfl
    have d6 := HW2.out.cell (j := 6) rfl
    have d7 := HW2.out.cell (j := 7) rfl
    have f6 := HW2.out.frozen 6
    have HXs := Lib.hid (show (w2.setCell ⟨B, 6, none⟩ (.int .i64 s.hops)).heap[w.heap.size]? = some (.cells #[.int .i64 0, .int .i64 0, .string ⟨#[]⟩, .int .i64 0] 167 (0, 0)) from (heap_setCell_other _ _ _ _ (show w.heap.size ≠ B from by have := HBl.out; omega)).trans HX2.out)
    have HBe := Lib.hid (but_end HB2.out HBl.out (.int .i64 s.hops) HX2.out (plC s.pl s.hops))
    go_wp2_with (refine wpList_store_row rfl 167 (.tmp 2) (.tmp 30) rfl w.heap.size (plC s.pl s.hops) rfl rfl _ _ HXs.out (by rw [sizePlace]; rfl) rfl (plC_one _ _) ?_)
    exact end_post HRV.out.symm (setRow_heap _ _ _ _ _ _ HXs.out) HBe.out _ rfl rfl
  | true =>
    rw [hs] at c9 HRV
    clear hs
    cases hk2 : (kindM M s.pl.id == 2) with
    | true =>
      rw [hk2] at HIs
      rw [if_neg (by simpa using hk2)] at HRV
      clear hk2
      go_wp2_with fail
      refine HIs.out.mono ?_
      rintro e w2 ⟨rfl, hb⟩
      have HB2 := Lib.hid (below_two HB1.out hb)
      have HX2 := Lib.hid ((hb.block _ (heap_lt HX1.out)).trans HX1.out)
      clear hb c3 c9 HIs HW1 HB1 HX1
      have HW2 := Lib.hid (HWk.out _ HB2.out)
      have d3 := HW2.out.cell (j := 3) rfl
      have d4 := HW2.out.cell (j := 4) rfl
      have d5 := HW2.out.cell (j := 5) rfl
      have d6 := HW2.out.cell (j := 6) rfl
      have d7 := HW2.out.cell (j := 7) rfl
      have f6 := HW2.out.frozen 6
      have HXs := Lib.hid (show (w2.setCell ⟨B, 6, none⟩ (.int .i64 s.hops)).heap[w.heap.size]? = some (.cells #[.int .i64 0, .int .i64 0, .string ⟨#[]⟩, .int .i64 0] 167 (0, 0)) from (heap_setCell_other _ _ _ _ (show w.heap.size ≠ B from by have := HBl.out; omega)).trans HX2.out)
      have HBe := Lib.hid (but_end HB2.out HBl.out (.int .i64 s.hops) HX2.out (plC s.pl s.hops))
      go_wp2_with (refine wpList_store_row rfl 167 (.tmp 2) (.tmp 30) rfl w.heap.size (plC s.pl s.hops) rfl rfl _ _ HXs.out (by rw [sizePlace]; rfl) rfl (plC_one _ _) ?_)
      exact end_post HRV.out.symm (setRow_heap _ _ _ _ _ _ HXs.out) HBe.out _ rfl rfl
    | false =>
      rw [hk2] at HIs
      rw [if_pos ⟨rfl, by simpa using hk2⟩] at HRV
      clear hk2
      go_wp2_with fail
      refine HIs.out.mono ?_
      rintro e w2 ⟨rfl, hb⟩
      have HB2 := Lib.hid (below_two HB1.out hb)
      have HX2 := Lib.hid ((hb.block _ (heap_lt HX1.out)).trans HX1.out)
      clear hb c3 c9 HIs HW1 HB1 HX1
      go_wp2_with (refine wpList_store_row rfl 167 (.tmp 2) (.tmp 18) rfl w.heap.size (plC zeroPl 0) rfl rfl _ _ HX2.out (by rw [sizePlace]; rfl) rfl (plC_one _ _) ?_)
      exact end_post HRV.out.symm (setRow_heap _ _ _ _ _ _ HX2.out) (but_of_row HB2.out HX2.out _) _ rfl rfl
end Go.Proofs.YtknfhphhcnbndaaGreatDoor.V

namespace Go.Proofs.YtknfhphhcnbndaaGreatDoor.V
open Go.Proofs.YtknfhphhcnbndaaGreatDoor.P
open Go.RowKit

theorem but_trans {B : Nat} {a b c : World} (h : But B a b) (k : But B b c) : But B a c :=
  ⟨k.os.trans h.os, k.tape.trans h.tape, k.output.trans h.output, Nat.le_trans h.size k.size, fun j hj hn => by
    have := h.size
    rw [k.block j (by omega) hn, h.block j hj hn]⟩
theorem but_below {B : Nat} {a b : World} (h : Below a.heap.size a b) : But B a b := ⟨h.os, h.tape, h.output, h.size, fun j hj _ => h.block j hj⟩
theorem has_butT {w0 w w' : World} {p b : Nat} {M : List Nd} (h : Has w0 p M w) (g : But b w w') {cs : Array Value} {T : TypeId} (hb : w.heap[b]? = some (.cells cs T (0, 0))) (h1 : T ≠ 137) (h2 : T ≠ 135) (h3 : T ≠ 177) (hB : w0.heap.size ≤ b) : Has w0 p M w' := by
  obtain ⟨h, e1, e2, H, hb1, hf⟩ := h
  refine ⟨h, e1, e2, H.at (fun k hk => g.block k (H.lt hk) ?_), g.below hb1 hB hb1.size, hf⟩
  rintro rfl
  obtain ⟨cur, T', hc, hT⟩ := foot_type H hk
  rw [hb] at hc
  simp only [Option.some.injEq, Obj.cells.injEq, and_true] at hc
  obtain ⟨_, rfl⟩ := hc
  rcases hT with e | e | e
  · exact h1 e
  · exact h2 e
  · exact h3 e
theorem Wk.but {M : List Nd} {p : Nat} {u g : Int} {follow : Bool} {B : Nat} {lv lv' : Value} {s s' : St} {w w' : World} (h : Wk M p u g follow B lv s w) (hb : But B w w')
    (hx : w'.heap[B]? = some (.cells (boxOf p u g follow lv' s').toArray 232 (0, 0))) (hl : NRow w' lv' s'.left) : Wk M p u g follow B lv' s' w' := by
  obtain ⟨w0, hf, hB⟩ := h.fs
  have hg : 5 ≠ B := by
    intro e
    have c0 := h.cell (j := 0) rfl
    have c1 := h.tab.cell 0 _ rfl
    rw [Nat.zero_add] at c1
    subst e
    rw [c0] at c1
    cases c1
  refine ⟨⟨w0, has_butT hf hb h.box (by decide) (by decide) (by decide) hB, hB⟩, ⟨fun j v hj => ?_⟩, hx, hl⟩
  have hc := h.tab.cell j v hj
  have hlt := cell_lt hc
  have hbl := hb.block 5 hlt hg
  rw [← hc]
  unfold World.cell?
  rw [hbl]
theorem Wk.row {M : List Nd} {p : Nat} {u g : Int} {follow : Bool} {B : Nat} {lv : Value} {s : St} {w w' : World} (h : Wk M p u g follow B lv s w) (hb : But B w w') {v : Value} {l : List ByteArray} (ho : NRow w v l) : NRow w' v l :=
  ho.at_ fun A cur hA => hb.block A (heap_lt hA) (fun e => by
    have hx := h.box
    rw [← e, hA] at hx
    simp at hx)
/-- One cell of the box stored. -/
theorem Wk.set {M : List Nd} {p : Nat} {u g : Int} {follow : Bool} {B : Nat} {lv : Value} {s s' : St} {w : World} (h : Wk M p u g follow B lv s w) (k : Nat) (x : Value) (hs : boxOf p u g follow lv s' = (boxOf p u g follow lv s).set k x) (hl : s'.left = s.left) : Wk M p u g follow B lv s' (w.setCell ⟨B, k, none⟩ x) := by
  refine h.but (but_setCell w B k x) ?_ (by rw [hl]; exact h.row (but_setCell w B k x) h.left)
  rw [heap_setCell_same w B k _ _ _ h.box, hs]
  simp
theorem infoStrs : (Tryz.prog.info? 9).map (fun i => (i.zero, i.size, i.bytes)) = some (some (.string ⟨#[]⟩), 1, 16) := by kernel_rfl
theorem strs_one (l : List ByteArray) : ∀ u ∈ strs l, u.oneCell' = true := by
  intro u hu
  unfold strs at hu
  obtain ⟨x, _, rfl⟩ := List.mem_map.1 hu
  rfl
theorem strs_len (a : List ByteArray) : (strs a).length = a.length := by unfold strs; rw [List.length_map]
section
variable {P : Program} {w : World}
theorem wpList_append_nrow {ops : Array Oper} {rest : List Oper} {o : Oper} {a : Act} {Q : Exit → Act → World → Prop} (hgd : o.guard = none) (s x : Operand) (t : TypeId)
    (ho : o.op = .call { callee := .builtin .append, args := #[s, x], argTypes := #[t, t] })
    (base : Nat) (i : TypeInfo) (z : Value) (ht : P.underlying t = some (.slice 9)) (hi : P.info? 9 = some i) (hz : i.zero = some z)
    (hsize : i.size = 1) (hby : i.bytes = 16) (hzs : z.cells.size = 1)
    (v : Value) (n : Nat) (xs : List Value) (hs : a.eval s = v) (hown : w.ownsRow base 9 1 v n xs) (u : Value) (l : List ByteArray) (hx : a.eval x = u) (hsrc : NRow w u l)
    (h63 : n + l.length ≤ maxLen) (hbytes : (n + l.length) * 16 ≤ 140737488355328) (hbase : base ≤ w.heap.size)
    (h : ∀ v' w', w'.ownsRow base 9 1 v' (n + l.length) (xs ++ strs l) → w.grownBy w' v.ownBlock → wpList P ops Q rest (a.put o.dst v') w') : wpList P ops Q (o :: rest) a w := by
  rcases hsrc with ⟨rfl, rfl⟩ | ⟨A, off, c, cur, rfl, h1, h2, h3, h4⟩
  · exact wpList_append_row hgd s x t ho base 9 i z 1 16 ht hi hz hsize hby hzs (by decide) v n xs hs hown (.slice none 0 0) 0 [] hx (World.ownsRow_nil _ _ _ _) (by intro y hy; cases hy) h63 hbytes hbase (fun v' w' p q => h v' w' (by simpa [strs] using p) q)
  · refine wpList_append_own w hgd s x t ho base 9 i z 1 16 ht hi hz hsize hby hzs (by decide) v n xs hs hown ⟨A, off, none⟩ l.length c (strs l) hx (by rw [strs_len]; omega) (fun j y hy => ?_) (strs_one l) h63 hbytes hbase (fun v' w' p q _ => h v' w' p q)
    unfold strs at hy
    rw [List.getElem?_map] at hy
    obtain ⟨nm, hnm, rfl⟩ := Option.map_eq_some_iff.1 hy
    have hadd : (⟨A, off, none⟩ : Addr).add j = ⟨A, off + j, none⟩ := by unfold Addr.add; split <;> simp_all
    rw [hadd, cell_of_row _ _ _ _ _ _ h3]
    exact h4 j nm hnm
end
theorem strs_append (a b : List ByteArray) : strs (a ++ b) = strs a ++ strs b := by unfold strs; rw [List.map_append]
theorem namesL_len (s : ByteArray) : (namesL s).length ≤ s.size + 1 := by
  unfold namesL nmSpans
  rw [List.length_map]
  exact (nmGo_ok s (s.size + 1) (Nat.le_refl _)).1

/-- Behind the names: the box, the names' row, and what has changed. -/
structure PIn (M : List Nd) (p : Nat) (u g : Int) (follow : Bool) (B : Nat) (lv : Value) (s : St) (A base : Nat) (nms : List ByteArray) (w W : World) : Prop where
  wk : Wk M p u g follow B lv s W
  names : W.ownsRow base 9 1 (.slice (some ⟨A, 0, none⟩) nms.length nms.length) nms.length (strs nms)
  but : But B w W
  big : B < base
  glob : 5 < base
  at_ : base ≤ A
  size : base ≤ W.heap.size
  old : w.heap.size ≤ base
section
variable {M : List Nd} {p : Nat} {u g : Int} {follow : Bool} {B : Nat} {lv : Value} {s s' : St} {A base : Nat} {nms : List ByteArray} {w W W' : World}
theorem PIn.keep (h : PIn M p u g follow B lv s A base nms w W) (hb : Below W.heap.size W W') : PIn M p u g follow B lv s A base nms w W' :=
  ⟨h.wk.keep hb, owns_at h.names (fun k hk => hb.block k (h.names.lt k hk).2), but_trans h.but (but_below hb), h.big, h.glob, h.at_, Nat.le_trans h.size hb.size, h.old⟩
theorem PIn.set (h : PIn M p u g follow B lv s A base nms w W) (k : Nat) (x : Value) (hs : boxOf p u g follow lv s' = (boxOf p u g follow lv s).set k x) (hl : s'.left = s.left) : PIn M p u g follow B lv s' A base nms w (W.setCell ⟨B, k, none⟩ x) :=
  ⟨h.wk.set k x hs hl, owns_at h.names (fun j hj => heap_setCell_other _ _ _ _ (show j ≠ B from by have := (h.names.lt j hj).1; have := h.big; omega)), but_trans h.but (but_setCell W B k x), h.big, h.glob, h.at_, Nat.le_trans h.size (but_setCell W B k x).size, h.old⟩
theorem PIn.fin (h : PIn M p u g follow B lv s A base nms w W) {v : Value} (hg : W.grownBy W' (some A)) (ho : W'.ownsRow base 9 1 v (nms.length + s.left.length) (strs nms ++ strs s.left)) :
    But B w (W'.setCell ⟨B, 8, none⟩ v) ∧ Wk M p u g follow B v ⟨s.pl, s.hops, nms ++ s.left, s.slash⟩ (W'.setCell ⟨B, 8, none⟩ v) := by
  have hAB : A ≠ B := by have := h.big; have := h.at_; omega
  have hBb := h.big
  have hgA : But A W W' := ⟨hg.os, hg.tape, hg.output, hg.size, fun k hk hn => hg.block k hk (fun e => hn (Option.some.inj e))⟩
  obtain ⟨w0, hf, hw0⟩ := h.wk.fs
  obtain ⟨cur, hcur⟩ := owns_type h.names (k := A) rfl
  have hbx : W'.heap[B]? = W.heap[B]? := hg.block B (heap_lt h.wk.box) (fun e => hAB (Option.some.inj e).symm)
  have hold := h.old
  have hat := h.at_
  have hgl := h.glob
  have hws := h.but.size
  have hbut1 : But B w W' := ⟨hgA.os.trans h.but.os, hgA.tape.trans h.but.tape, hgA.output.trans h.but.output, Nat.le_trans h.but.size hgA.size, fun k hk hn => by
    rw [hgA.block k (by omega) (by omega), h.but.block k hk hn]⟩
  have hb2 := but_setCell W' B 8 v
  have hX' := hbx.trans h.wk.box
  have hfs1 : Has w0 p M W' := has_butT hf hgA hcur (by decide) (by decide) (by decide) (by omega)
  have hBs := heap_lt h.wk.box
  have hsz := h.size
  have hgs := hgA.size
  refine ⟨but_trans hbut1 hb2, ⟨⟨w0, has_butT hfs1 hb2 hX' (by decide) (by decide) (by decide) hw0, hw0⟩, ⟨fun j x hj => ?_⟩, ?_, ?_⟩⟩
  · have hc := h.wk.tab.cell j x hj
    have hlt := cell_lt hc
    have hgB : 5 ≠ B := by
      intro e
      have c0 := h.wk.cell (j := 0) rfl
      have c1 := h.wk.tab.cell 0 _ rfl
      rw [Nat.zero_add] at c1
      subst e
      rw [c0] at c1
      cases c1
    have e1 := hb2.block 5 (by have : 5 < W.heap.size := hlt; omega) hgB
    have e2 := hgA.block 5 hlt (by omega)
    rw [← hc]
    unfold World.cell?
    rw [e1, e2]
  · rw [heap_setCell_same W' B 8 _ _ _ hX']
    simp [boxOf]
  · refine NRow.of_owns (b := base) ?_
    show World.ownsRow _ base _ 1 v (nms ++ s.left).length (strs (nms ++ s.left))
    rw [List.length_append, strs_append]
    exact owns_at ho (fun k hk => heap_setCell_other _ _ _ _ (show k ≠ B from by have := (ho.lt k hk).1; omega))
end
/-- The state behind a link that is followed. -/
def passS (M : List Nd) (s : St) (i : Int) : St :=
  ⟨if beginsB (linkT M i) = true then plOf 0 else s.pl, s.hops + 1, namesL (linkT M i) ++ s.left, s.slash || (endsB (linkT M i) && s.left.isEmpty)⟩
def passE (M : List Nd) (s : St) (i : Int) : Int := if s.hops = 40 then 6 else linkE M i
def PassPost (M : List Nd) (p : Nat) (u g : Int) (follow : Bool) (B : Nat) (s : St) (i : Int) (w : World) (e : Ending) (w' : World) : Prop :=
  ∃ lv', e = .returned (.int .i64 (passE M s i)) ∧ But B w w' ∧ (passE M s i = 0 → Wk M p u g follow B lv' (passS M s i) w')

set_option maxRecDepth 100000 in
set_option maxHeartbeats 8000000 in
theorem wpass_any {M : List Nd} {p : Nat} {u g : Int} {follow : Bool} {B : Nat} {lv : Value} {s : St} (i : Int) (w : World) (h : Wk M p u g follow B lv s w) (hn : 0 < M.length) (ht : (linkT M i).size ≤ 5000) (hl : s.left.length ≤ 1000000) (h0 : 0 ≤ s.hops) (h4 : s.hops ≤ 40) :
    Calls Tryz.prog 139 #[.pointer (some ⟨B, 0, none⟩), .int .i64 i] w (PassPost M p u g follow B s i w) := by
  by_cases hh : s.hops = 40
  · have c7 := h.cell (j := 7) rfl
    have d7 : (s.hops == 40) = true := by rw [hh]; rfl
    have HP := Lib.hid (show passE M s i = 6 from by unfold passE; rw [if_pos hh])
    clear hh h
    go_enter Tryz.func139, Tryz.ntmps139
    go_wp2_with fail
    go_ret
    exact ⟨.slice none 0 0, ret_int HP.out.symm, but_below (Below.refl _ _), fun e => by rw [HP.out] at e; cases e⟩
  · have d7 : (s.hops == 40) = false := beq_eq_false_iff_ne.2 hh
    have HP := Lib.hid (show passE M s i = linkE M i from by unfold passE; rw [if_neg hh])
    have c7 := h.cell (j := 7) rfl
    have c0 := h.cell (j := 0) rfl
    have HL := Lib.hid (Exists.elim h.fs fun _ hf => has_link i hf.1 hn)
    have HH := Lib.hid h
    have f7 := h.frozen 7
    clear h
    by_cases he : linkE M i = 0
    · rw [he] at HL HP
      go_enter Tryz.func139, Tryz.ntmps139
      go_upto_region 7 with (go_at_call 84; refine HL.out.mono ?_; rintro e w2 ⟨rfl, hw⟩; subst hw)
      have HW1 := Lib.hid (show Wk M p u g follow B lv ⟨s.pl, s.hops + 1, s.left, s.slash⟩ (w.setCell ⟨B, 7, none⟩ (.int .i64 (s.hops + 1))) from HH.out.set 7 _ rfl rfl)
      have HB1 := Lib.hid (but_setCell w B 7 (.int .i64 (s.hops + 1)))
      generalize w.setCell ⟨B, 7, none⟩ (.int .i64 (s.hops + 1)) = w1 at HW1 HB1 ⊢
      have HNm := Lib.hid (names_any (linkT M i) w1 (by omega))
      have hnl := namesL_len (linkT M i)
      obtain ⟨a, c, hlv⟩ := HW1.out.left.form
      subst hlv
      clear c0 c7 f7 HL he
      go_upto_region 8 with (go_at_call 135; refine HNm.out.mono ?_; rintro e w2 ⟨A, rfl, hA, hown, hb⟩; have HO2 := Lib.hid hown; have HB2 := Lib.hid hb; have HA1 := Lib.hid hA; clear hown hb hA)
      have HW2 := Lib.hid (HW1.out.keep HB2.out)
      have HBx := Lib.hid (but_trans HB1.out (but_below HB2.out))
      have HPS := Lib.hid (show passS M s i = ⟨if beginsB (linkT M i) = true then plOf 0 else s.pl, s.hops + 1, namesL (linkT M i) ++ s.left, s.slash || (endsB (linkT M i) && s.left.isEmpty)⟩ from rfl)
      have HP2 := Lib.hid (show PIn M p u g follow B (.slice a s.left.length c) ⟨s.pl, s.hops + 1, s.left, s.slash⟩ A w1.heap.size (namesL (linkT M i)) w w2 from
        ⟨HW2.out, HO2.out, HBx.out, heap_lt HW1.out.box, cell_lt (HW1.out.tab.cell 0 _ rfl), HA1.out, HB2.out.size, HB1.out.size⟩)
      have HMX := Lib.hid (show (namesL (linkT M i)).length + s.left.length ≤ maxLen from by unfold maxLen; omega)
      obtain ⟨i0, hi, hz0, hz1, hz2⟩ := info_parts infoStrs
      clear HW2 HO2 HBx HA1 HB2 HNm HB1 HW1 HH
      generalize w1.heap.size = base at HP2
      cases hbb : beginsB (linkT M i) with
      | false =>
        rw [hbb, if_neg (by simp)] at HPS
        clear hbb
        go_upto_region 10 with fail
        have HP4 := HP2
        clear HP2
        obtain ⟨PL, hPL⟩ : ∃ q, s.pl = q := ⟨_, rfl⟩
        rw [hPL] at HP4 HPS
        clear hPL
        generalize namesL (linkT M i) = NL at *
        generalize w2 = w5 at *
        cases hee : endsB (linkT M i) with
        | false =>
          rw [hee, show (s.slash || (false && s.left.isEmpty)) = s.slash from by simp] at HPS
          have HP5 := HP4
          clear hee HP4
          have HW5 := Lib.hid HP5.out.wk
          have c8 := HW5.out.cell (j := 8) rfl
          have HSrc := Lib.hid HW5.out.left
          have HS5 := Lib.hid HP5.out.size
          go_wp2_with (at_builtin; (refine wpList_append_nrow rfl (.tmp 58) (.tmp 62) 40 rfl base i0 _ Tryz.underlying40 hi hz0 hz1 hz2 rfl (.slice (some ⟨A, 0, none⟩) NL.length NL.length) NL.length (strs NL) rfl HP5.out.names (.slice a s.left.length c) s.left rfl HSrc.out HMX.out (by omega) HS5.out ?_); intro v6 w6 hown6 hg6; obtain ⟨o6, c6, e6⟩ := owns_form hown6; subst e6; have HF6 := Lib.hid (HP5.out.fin hg6 hown6); have HX6 := Lib.hid ((hg6.block B (heap_lt HW5.out.box) (by intro e; have e2 : B = A := Option.some.inj e; have := HP5.out.big; have := HP5.out.at_; omega)).trans HW5.out.box); have c8' : w6.cell? ⟨B, 8, none⟩ = some (.slice a s.left.length c) := (cell_of_row _ _ _ _ _ _ HX6.out).trans rfl; have f8' : w6.frozen? ⟨B, 8, none⟩ = false := frozen_of_row w6 B 8 _ _ HX6.out; clear hown6 hg6)
          go_ret
          exact ⟨_, ret_int HP.out.symm, HF6.out.1, fun _ => by rw [HPS.out]; exact HF6.out.2⟩
        | true =>
          rw [hee] at HPS
          clear hee
          have c8 := HP4.out.wk.cell (j := 8) rfl
          by_cases hl0 : s.left.length = 0
          · have d8 : ((s.left.length : Int) == 0) = true := by rw [hl0]; rfl
            have hle : s.left.isEmpty = true := by rw [List.isEmpty_iff, List.eq_nil_iff_length_eq_zero]; exact hl0
            rw [hle] at HPS
            have f9 := HP4.out.wk.frozen 9
            have c9 := HP4.out.wk.cell (j := 9) rfl
            clear hle hl0
            go_upto_region 12 with fail
            have HP5 := Lib.hid (show PIn M p u g follow B (.slice a s.left.length c) ⟨PL, s.hops + 1, s.left, true⟩ A base NL w (w5.setCell ⟨B, 9, none⟩ (.bool true)) from HP4.out.set 9 _ rfl rfl)
            generalize w5.setCell ⟨B, 9, none⟩ (.bool true) = w5' at HP5 ⊢
            rw [show (s.slash || (true && true)) = true from by simp] at HPS
            clear HP4 c8 f9 c9
            have HW5 := Lib.hid HP5.out.wk
            have c8 := HW5.out.cell (j := 8) rfl
            have HSrc := Lib.hid HW5.out.left
            have HS5 := Lib.hid HP5.out.size
            go_wp2_with (at_builtin; (refine wpList_append_nrow rfl (.tmp 58) (.tmp 62) 40 rfl base i0 _ Tryz.underlying40 hi hz0 hz1 hz2 rfl (.slice (some ⟨A, 0, none⟩) NL.length NL.length) NL.length (strs NL) rfl HP5.out.names (.slice a s.left.length c) s.left rfl HSrc.out HMX.out (by omega) HS5.out ?_); intro v6 w6 hown6 hg6; obtain ⟨o6, c6, e6⟩ := owns_form hown6; subst e6; have HF6 := Lib.hid (HP5.out.fin hg6 hown6); have HX6 := Lib.hid ((hg6.block B (heap_lt HW5.out.box) (by intro e; have e2 : B = A := Option.some.inj e; have := HP5.out.big; have := HP5.out.at_; omega)).trans HW5.out.box); have c8' : w6.cell? ⟨B, 8, none⟩ = some (.slice a s.left.length c) := (cell_of_row _ _ _ _ _ _ HX6.out).trans rfl; have f8' : w6.frozen? ⟨B, 8, none⟩ = false := frozen_of_row w6 B 8 _ _ HX6.out; clear hown6 hg6)
            go_ret
            exact ⟨_, ret_int HP.out.symm, HF6.out.1, fun _ => by rw [HPS.out]; exact HF6.out.2⟩
          · have d8 : ((s.left.length : Int) == 0) = false := beq_eq_false_iff_ne.2 (by omega)
            have hle : s.left.isEmpty = false := by cases hs : s.left with | nil => rw [hs] at hl0; simp at hl0 | cons x r => rfl
            rw [hle, show (s.slash || (true && false)) = s.slash from by simp] at HPS
            have HP5 := HP4
            clear hle hl0 HP4 c8
            have HW5 := Lib.hid HP5.out.wk
            have c8 := HW5.out.cell (j := 8) rfl
            have HSrc := Lib.hid HW5.out.left
            have HS5 := Lib.hid HP5.out.size
            go_wp2_with (at_builtin; (refine wpList_append_nrow rfl (.tmp 58) (.tmp 62) 40 rfl base i0 _ Tryz.underlying40 hi hz0 hz1 hz2 rfl (.slice (some ⟨A, 0, none⟩) NL.length NL.length) NL.length (strs NL) rfl HP5.out.names (.slice a s.left.length c) s.left rfl HSrc.out HMX.out (by omega) HS5.out ?_); intro v6 w6 hown6 hg6; obtain ⟨o6, c6, e6⟩ := owns_form hown6; subst e6; have HF6 := Lib.hid (HP5.out.fin hg6 hown6); have HX6 := Lib.hid ((hg6.block B (heap_lt HW5.out.box) (by intro e; have e2 : B = A := Option.some.inj e; have := HP5.out.big; have := HP5.out.at_; omega)).trans HW5.out.box); have c8' : w6.cell? ⟨B, 8, none⟩ = some (.slice a s.left.length c) := (cell_of_row _ _ _ _ _ _ HX6.out).trans rfl; have f8' : w6.frozen? ⟨B, 8, none⟩ = false := frozen_of_row w6 B 8 _ _ HX6.out; clear hown6 hg6)
            go_ret
            exact ⟨_, ret_int HP.out.symm, HF6.out.1, fun _ => by rw [HPS.out]; exact HF6.out.2⟩
      | true =>
        rw [hbb, if_pos rfl] at HPS
        clear hbb
        have HPl := Lib.hid (placeOf_any 0 w2)
        unfold plV plOf at HPl
        generalize namesL (linkT M i) = NL at *
        go_upto_region 10 with (go_at_call 134; refine HPl.out.mono ?_; rintro e w3 ⟨rfl, hb⟩; have HP3 := Lib.hid (HP2.out.keep hb); have g3 := HP3.out.wk.cell (j := 3) rfl; have g4 := HP3.out.wk.cell (j := 4) rfl; have g5 := HP3.out.wk.cell (j := 5) rfl; have g6 := HP3.out.wk.cell (j := 6) rfl; have k3 := HP3.out.wk.frozen 3; have k4 := HP3.out.wk.frozen 4; have k5 := HP3.out.wk.frozen 5; have k6 := HP3.out.wk.frozen 6; clear hb)
        have HP4 := Lib.hid (show PIn M p u g follow B (.slice a s.left.length c) ⟨plOf 0, s.hops + 1, s.left, s.slash⟩ A base NL w ((((w3.setCell ⟨B, 3, none⟩ (.int .i64 0)).setCell ⟨B, 4, none⟩ (.int .i64 0)).setCell ⟨B, 5, none⟩ (.string ⟨#[]⟩)).setCell ⟨B, 6, none⟩ (.int .i64 0)) from
          (((HP3.out.set (s' := ⟨⟨0, s.pl.dir, s.pl.name⟩, s.hops + 1, s.left, s.slash⟩) 3 _ rfl rfl).set (s' := ⟨⟨0, 0, s.pl.name⟩, s.hops + 1, s.left, s.slash⟩) 4 _ rfl rfl).set (s' := ⟨plOf 0, s.hops + 1, s.left, s.slash⟩) 5 _ rfl rfl).set 6 _ rfl rfl)
        generalize (((w3.setCell ⟨B, 3, none⟩ (.int .i64 0)).setCell ⟨B, 4, none⟩ (.int .i64 0)).setCell ⟨B, 5, none⟩ (.string ⟨#[]⟩)).setCell ⟨B, 6, none⟩ (.int .i64 0) = w5 at HP4 ⊢
        clear HP3 g3 g4 g5 g6 k3 k4 k5 k6 HPl HP2
        generalize plOf 0 = PL at *
        cases hee : endsB (linkT M i) with
        | false =>
          rw [hee, show (s.slash || (false && s.left.isEmpty)) = s.slash from by simp] at HPS
          have HP5 := HP4
          clear hee HP4
          have HW5 := Lib.hid HP5.out.wk
          have c8 := HW5.out.cell (j := 8) rfl
          have HSrc := Lib.hid HW5.out.left
          have HS5 := Lib.hid HP5.out.size
          go_wp2_with (at_builtin; (refine wpList_append_nrow rfl (.tmp 58) (.tmp 62) 40 rfl base i0 _ Tryz.underlying40 hi hz0 hz1 hz2 rfl (.slice (some ⟨A, 0, none⟩) NL.length NL.length) NL.length (strs NL) rfl HP5.out.names (.slice a s.left.length c) s.left rfl HSrc.out HMX.out (by omega) HS5.out ?_); intro v6 w6 hown6 hg6; obtain ⟨o6, c6, e6⟩ := owns_form hown6; subst e6; have HF6 := Lib.hid (HP5.out.fin hg6 hown6); have HX6 := Lib.hid ((hg6.block B (heap_lt HW5.out.box) (by intro e; have e2 : B = A := Option.some.inj e; have := HP5.out.big; have := HP5.out.at_; omega)).trans HW5.out.box); have c8' : w6.cell? ⟨B, 8, none⟩ = some (.slice a s.left.length c) := (cell_of_row _ _ _ _ _ _ HX6.out).trans rfl; have f8' : w6.frozen? ⟨B, 8, none⟩ = false := frozen_of_row w6 B 8 _ _ HX6.out; clear hown6 hg6)
          go_ret
          exact ⟨_, ret_int HP.out.symm, HF6.out.1, fun _ => by rw [HPS.out]; exact HF6.out.2⟩
        | true =>
          rw [hee] at HPS
          clear hee
          have c8 := HP4.out.wk.cell (j := 8) rfl
          by_cases hl0 : s.left.length = 0
          · have d8 : ((s.left.length : Int) == 0) = true := by rw [hl0]; rfl
            have hle : s.left.isEmpty = true := by rw [List.isEmpty_iff, List.eq_nil_iff_length_eq_zero]; exact hl0
            rw [hle] at HPS
            have f9 := HP4.out.wk.frozen 9
            have c9 := HP4.out.wk.cell (j := 9) rfl
            clear hle hl0
            go_upto_region 12 with fail
            have HP5 := Lib.hid (show PIn M p u g follow B (.slice a s.left.length c) ⟨PL, s.hops + 1, s.left, true⟩ A base NL w (w5.setCell ⟨B, 9, none⟩ (.bool true)) from HP4.out.set 9 _ rfl rfl)
            generalize w5.setCell ⟨B, 9, none⟩ (.bool true) = w5' at HP5 ⊢
            rw [show (s.slash || (true && true)) = true from by simp] at HPS
            clear HP4 c8 f9 c9
            have HW5 := Lib.hid HP5.out.wk
            have c8 := HW5.out.cell (j := 8) rfl
            have HSrc := Lib.hid HW5.out.left
            have HS5 := Lib.hid HP5.out.size
            go_wp2_with (at_builtin; (refine wpList_append_nrow rfl (.tmp 58) (.tmp 62) 40 rfl base i0 _ Tryz.underlying40 hi hz0 hz1 hz2 rfl (.slice (some ⟨A, 0, none⟩) NL.length NL.length) NL.length (strs NL) rfl HP5.out.names (.slice a s.left.length c) s.left rfl HSrc.out HMX.out (by omega) HS5.out ?_); intro v6 w6 hown6 hg6; obtain ⟨o6, c6, e6⟩ := owns_form hown6; subst e6; have HF6 := Lib.hid (HP5.out.fin hg6 hown6); have HX6 := Lib.hid ((hg6.block B (heap_lt HW5.out.box) (by intro e; have e2 : B = A := Option.some.inj e; have := HP5.out.big; have := HP5.out.at_; omega)).trans HW5.out.box); have c8' : w6.cell? ⟨B, 8, none⟩ = some (.slice a s.left.length c) := (cell_of_row _ _ _ _ _ _ HX6.out).trans rfl; have f8' : w6.frozen? ⟨B, 8, none⟩ = false := frozen_of_row w6 B 8 _ _ HX6.out; clear hown6 hg6)
            go_ret
            exact ⟨_, ret_int HP.out.symm, HF6.out.1, fun _ => by rw [HPS.out]; exact HF6.out.2⟩
          · have d8 : ((s.left.length : Int) == 0) = false := beq_eq_false_iff_ne.2 (by omega)
            have hle : s.left.isEmpty = false := by cases hs : s.left with | nil => rw [hs] at hl0; simp at hl0 | cons x r => rfl
            rw [hle, show (s.slash || (true && false)) = s.slash from by simp] at HPS
            have HP5 := HP4
            clear hle hl0 HP4 c8
            have HW5 := Lib.hid HP5.out.wk
            have c8 := HW5.out.cell (j := 8) rfl
            have HSrc := Lib.hid HW5.out.left
            have HS5 := Lib.hid HP5.out.size
            go_wp2_with (at_builtin; (refine wpList_append_nrow rfl (.tmp 58) (.tmp 62) 40 rfl base i0 _ Tryz.underlying40 hi hz0 hz1 hz2 rfl (.slice (some ⟨A, 0, none⟩) NL.length NL.length) NL.length (strs NL) rfl HP5.out.names (.slice a s.left.length c) s.left rfl HSrc.out HMX.out (by omega) HS5.out ?_); intro v6 w6 hown6 hg6; obtain ⟨o6, c6, e6⟩ := owns_form hown6; subst e6; have HF6 := Lib.hid (HP5.out.fin hg6 hown6); have HX6 := Lib.hid ((hg6.block B (heap_lt HW5.out.box) (by intro e; have e2 : B = A := Option.some.inj e; have := HP5.out.big; have := HP5.out.at_; omega)).trans HW5.out.box); have c8' : w6.cell? ⟨B, 8, none⟩ = some (.slice a s.left.length c) := (cell_of_row _ _ _ _ _ _ HX6.out).trans rfl; have f8' : w6.frozen? ⟨B, 8, none⟩ = false := frozen_of_row w6 B 8 _ _ HX6.out; clear hown6 hg6)
            go_ret
            exact ⟨_, ret_int HP.out.symm, HF6.out.1, fun _ => by rw [HPS.out]; exact HF6.out.2⟩
    · have e0 : (linkE M i != 0) = true := by simpa using he
      go_enter Tryz.func139, Tryz.ntmps139
      go_wp2_with (go_at_call 84; refine HL.out.mono ?_; rintro e w2 ⟨rfl, hw⟩; subst hw)
      go_ret
      exact ⟨.slice none 0 0, ret_int HP.out.symm, but_below (Below.refl _ _), fun e => absurd (HP.out.symm.trans e) he⟩
end Go.Proofs.YtknfhphhcnbndaaGreatDoor.V

namespace Go.Proofs.YtknfhphhcnbndaaGreatDoor.V
open Go.Proofs.YtknfhphhcnbndaaGreatDoor.P
open Go.RowKit

def TgtM (M : List Nd) : Prop := ∀ n ∈ M, n.target.size ≤ 5000
theorem tgt_mod {M : List Nd} {i : Nat} {f : Nd → Nd} (hf : ∀ n, (f n).target = n.target) (h : TgtM M) : TgtM (M.modify i f) := all_modify h (fun n hn => hn) (fun n hn => by rw [hf]; exact hn)
theorem tgt_app {M : List Nd} {n : Nd} (h : TgtM M) (hn : n.target.size ≤ 5000) : TgtM (M ++ [n]) := fun x hx => by
  rcases List.mem_append.1 hx with q | q
  · exact h x q
  · obtain rfl : x = n := by simpa using q
    exact hn
theorem tgt_built {M : List Nd} {i : Nat} {s : ByteArray} {n : Nd} {d : Int} (h : TgtM M) (hn : n.target.size ≤ 5000) : TgtM (builtM M i s n d) := by
  unfold builtM
  exact tgt_mod (fun _ => rfl) (tgt_mod (fun _ => rfl) (tgt_app h hn))
theorem setNd_target (c : Chg) (n : Nd) : (setNd c n).target = n.target := by
  unfold setNd
  repeat' split
  all_goals rfl
theorem tgt_do {M : List Nd} {c : Chg} (h : TgtM M) (hc : c.text.size ≤ 5000) : TgtM (doM M c) := by
  have h0 : (⟨#[]⟩ : ByteArray).size ≤ 5000 := by decide
  unfold doM
  split
  · rename_i hw
    rcases wrong_cases hw with ⟨x, hx, hk, hl⟩ | ⟨k2, x, y, hx, hy, _⟩ | ⟨k7, hl, y, hy⟩ | ⟨hk, y, hy⟩
    · unfold carryM
      rcases hk with k0 | ⟨k1, _⟩ | k3
      · rw [if_pos k0]; exact tgt_built h h0
      · rw [if_neg (by omega), if_pos k1]; exact tgt_built h h0
      · rw [if_neg (by omega), if_neg (by omega), if_neg (by omega), if_pos k3]; exact tgt_built h hc
    · unfold carryM
      rw [if_neg (by omega), if_neg (by omega), if_pos k2]
      exact tgt_mod (fun _ => rfl) (tgt_mod (fun _ => rfl) h)
    · unfold carryM
      rw [if_neg (by omega), if_neg (by omega), if_neg (by omega), if_neg (by omega), if_pos k7]
      exact tgt_mod (fun _ => rfl) (tgt_app h h0)
    · unfold carryM
      rw [if_neg (by omega), if_neg (by omega), if_neg (by omega), if_neg (by omega), if_neg (by omega)]
      exact tgt_mod (setNd_target c) h
  · exact h
theorem tgt_new : TgtM newM := fun n hn => by
  obtain rfl : n = addedNd (dirNd 493 0) 1 [] := by simpa [newM] using hn
  decide
theorem tgt_link {M : List Nd} (h : TgtM M) (i : Int) : (linkT M i).size ≤ 5000 := by
  have h0 : (⟨#[]⟩ : ByteArray).size ≤ 5000 := by decide
  unfold linkT
  cases ha : atM M i with
  | none => exact h0
  | some n =>
    obtain ⟨k, _, hn⟩ := atM_some ha
    have := h n (List.mem_of_getElem? hn)
    dsimp only
    repeat' split
    all_goals first | exact h0 | exact this
theorem small_fewE' {M : List Nd} {k : Nat} (h : Small M k) (hk : k ≤ 900000) : FewE M := fun n hn => by have := (h.2 n hn).2.2; omega
end Go.Proofs.YtknfhphhcnbndaaGreatDoor.V
