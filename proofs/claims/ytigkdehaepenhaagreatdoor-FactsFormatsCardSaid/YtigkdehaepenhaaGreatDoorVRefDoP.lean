/-
  What the reference's wrong returns: what is wrong with a change, by the model. Conditions: at most 1000000 nodes and entries, texts of at most 1000000 bytes; the reference's entries are the model's.
  What the reference's Do has in hand; a refused change. Conditions: at most 1000000 nodes and entries, texts of at most 1000000 bytes.
-/
import Derived.Test.YtigkdehaepenhaaGreatDoorVRefWr0
import Derived.Test.YtigkdehaepenhaaGreatDoorVRefWr1
import Derived.Test.YtigkdehaepenhaaGreatDoorVRefWr2
import Derived.Test.YtigkdehaepenhaaGreatDoorVRefWr3
import Derived.Test.YtigkdehaepenhaaGreatDoorVRefWr7
set_option linter.unusedVariables false
namespace Go.Proofs.YtigkdehaepenhaaGreatDoor.V
open Go.RowKit

/-- The list of entries has what the nodes' have; what covers is no number below 0. -/
structure Rel (M : List Nd) (L : List It) : Prop where
  ents : ∀ (i : Nat) (x : Nd), M[i]? = some x → x.ents = (L.filter fun e => e.at_ == (i : Int)).map fun e => (e.name, e.id)
  over : ∀ x ∈ M, 0 ≤ x.over
  at_ : ∀ e ∈ L, 0 ≤ e.at_ ∧ e.at_ < (M.length : Int)
  id : ∀ e ∈ L, 0 ≤ e.id ∧ e.id < (M.length : Int)
theorem Rel.has {M : List Nd} {L : List It} (h : Rel M L) (s : ByteArray) (a : Int) (x : Nd) (hx : atM M a = some x) : hasEnt s x.ents = itHas L a s := by
  obtain ⟨i, rfl, hi⟩ := atM_some hx
  rw [h.ents i x hi]
  unfold hasEnt itHas
  rw [List.any_map, List.any_filter]
  rfl

theorem rwrong_any (M : List Nd) (L : List It) (v : Rv) (c : Chg) (w : World) (H : Rs M L v w) (R : Rel M L) (hM : M.length ≤ 1000000) (hL : L.length ≤ 1000000) (hn : 0 < M.length) (hs : c.name.size ≤ 1000000) (hts : c.text.size ≤ 1000000) :
    Calls Tryz.prog 41 #[rvV v, chgV c] w fun e w' => e = .returned (.int .i64 (wrongM M c)) ∧ Below w.heap.size w w' := by
  by_cases hb : c.kind < 0 ∨ 8 < c.kind
  · exact wrB_any M L v c w H hn hb
  · by_cases h4 : 4 ≤ c.kind
    · by_cases h7 : c.kind = 7
      · exact wr7_any M L v c w H hM hn h7 R.over
      · exact wrN_any M L v c w H hM hn h4 (by omega) (fun e => absurd e h7)
    · have hk : c.kind = 0 ∨ c.kind = 1 ∨ c.kind = 2 ∨ c.kind = 3 := by omega
      rcases hk with hk | hk | hk | hk
      · exact wr0_any M L v c w H hM hL hn hk hs hts (R.has c.name c.at_)
      · exact wr1_any M L v c w H hM hL hn hk hs hts (R.has c.name c.at_)
      · exact wr2_any M L v c w H hM hL hn hk hs hts (R.has c.name c.at_)
      · exact wr3_any M L v c w H hM hL hn hk hs hts (R.has c.name c.at_)
end Go.Proofs.YtigkdehaepenhaaGreatDoor.V

namespace Go.Proofs.YtigkdehaepenhaaGreatDoor.V
open Go.RowKit

structure DIn (W : World) (v : Rv) (c : Chg) (w : World) : Prop where
  box : w.heap[W.heap.size]? = some (.cells #[v.n, v.l, v.c, v.d, v.a, v.f] 32 (0, 0))
  chg : w.heap[W.heap.size + 1]? = some (chgBox c)
  res : w.heap[W.heap.size + 1 + 1]? = some (.cells nilsR 32 (0, 0))
  below : Below W.heap.size W w
theorem DIn.begin (W : World) (v : Rv) (c : Chg) : DIn W v c (((W.alloc (.cells #[v.n, v.l, v.c, v.d, v.a, v.f] 32)).alloc (chgBox c)).alloc (.cells nilsR 32)) := by
  obtain ⟨q0, q1, q2⟩ := heap3 W (.cells #[v.n, v.l, v.c, v.d, v.a, v.f] 32) (chgBox c) (.cells nilsR 32)
  exact ⟨q0, q1, q2, (((Below.refl _ _).alloc (Nat.le_refl _) _).alloc (by simp) _).alloc (by simp; omega) _⟩
theorem DIn.keep {W : World} {v : Rv} {c : Chg} {w w' : World} (h : DIn W v c w) (hb : Below w.heap.size w w') : DIn W v c w' :=
  ⟨box_keep2 h.box hb, box_keep2 h.chg hb, box_keep2 h.res hb, below_two h.below hb⟩
theorem DIn.drewN {W : World} {v : Rv} {c : Chg} {w : World} (h : DIn W v c w) (n : Nat) : DIn W v c (w.drewN n) := ⟨h.box, h.chg, h.res, below_drewN' h.below⟩
theorem DIn.but {W w w' : World} {v v' : Rv} {c : Chg} (h : DIn W v c w) (hb : But W.heap.size w w') (hx : w'.heap[W.heap.size]? = some (.cells #[v'.n, v'.l, v'.c, v'.d, v'.a, v'.f] 32 (0, 0))) : DIn W v' c w' :=
  ⟨hx, (hb.block _ (heap_lt h.chg) (by omega)).trans h.chg, (hb.block _ (heap_lt h.res) (by omega)).trans h.res, hb.below h.below (Nat.le_refl _) h.below.size⟩
theorem sizeChg : (Tryz.prog.info? 54).map (·.size) = some 8 := by kernel_rfl
theorem But.rs {b : Nat} {w w' : World} (h : But b w w') {M : List Nd} {L : List It} {v : Rv} {arr : Array Value} (hb : w.heap[b]? = some (.cells arr 32 (0, 0))) (H : Rs M L v w) : Rs M L v w' :=
  ⟨h.owns H.hn hb (by decide), h.owns H.hl hb (by decide), h.owns H.hc hb (by decide), h.owns H.hd hb (by decide), h.owns H.ha hb (by decide), h.owns H.hf hb (by decide)⟩
/-- What Do returns: the reference's file system behind the change, the node, the error. -/
def RDoP (M : List Nd) (L : List It) (c : Chg) (w : World) (e : Ending) (w' : World) : Prop :=
  ∃ v' L', e = .returned (.tuple #[rvV v', .int .i64 (doR M c), .int .i64 (wrongM M c)]) ∧ Rs (doM M c) L' v' w' ∧ Rel (doM M c) L' ∧ L'.length ≤ L.length + 1 ∧ Below w.heap.size w w'
theorem results_do {tmps : Array Value} {w : World} {g : Nat} {cs : Array Value} {T : TypeId} {fr : Nat × Nat} (h4 : tmps.getD 4 undef = .pointer (some ⟨g, 0, none⟩)) (hg : w.heap[g]? = some (.cells cs T fr)) (hs : cs.size = 6) :
    (results Tryz.f20 tmps).run Tryz.prog w = .ok (.tuple #[.agg cs, tmps.getD 5 undef, tmps.getD 6 undef]) w := by
  have hp' : tmps[4]?.getD undef = .pointer (some ⟨g, 0, none⟩) := by simpa using h4
  have hl := run_loadVar_row (P := Tryz.prog) w g T 32 cs fr _ hg Tryz.underlying32 rfl (by rw [sizeRef, hs])
  simp [results, hp', asAddr, hl]

set_option maxRecDepth 100000 in
set_option maxHeartbeats 8000000 in
theorem rdo_refused (M : List Nd) (L : List It) (v : Rv) (c : Chg) (w : World) (H : Rs M L v w) (R : Rel M L) (hM : M.length ≤ 1000000) (hL : L.length ≤ 1000000) (hn : 0 < M.length) (hs : c.name.size ≤ 1000000) (hts : c.text.size ≤ 1000000) (hw : wrongM M c ≠ 0) :
    Calls Tryz.prog 20 #[rvV v, chgV c] w (RDoP M L c w) := by
  have HC := Lib.hid (fun w' hb => rwrong_any M L v c w' (H.keep hb) R hM hL hn hs hts)
  have HH := Lib.hid H
  have D0 := DIn.begin w v c
  have t1 : (wrongM M c != 0) = true := by simp [hw]
  have HRs := Lib.hid (show doM M c = M ∧ doR M c = 0 by unfold doM doR; rw [if_neg hw, if_neg hw]; exact ⟨rfl, rfl⟩)
  clear hw
  obtain ⟨e, he⟩ : ∃ e, wrongM M c = e := ⟨_, rfl⟩
  rw [he] at HC t1
  have HE := Lib.hid he
  clear he
  obtain ⟨an, cn, al, cl, ac, cc, ad, cd, aa, ca, af, cf, rfl⟩ := H.forms
  unfold chgBox nilsR at D0
  unfold rvV chgV at HC
  unfold rvV chgV
  go_enter Tryz.func20, Tryz.ntmps20
  go_upto_region 1 with fail
  generalize hw2 : ((w.alloc _).alloc _).alloc _ = w2 at D0
  clear hw2
  have HD := Lib.hid D0
  have hb0 := D0.box
  have hc0 := D0.chg
  unfold chgBox at hc0
  have HB0 := Lib.hid hb0
  have HC0 := Lib.hid hc0
  clear hb0 hc0 D0
  go_wp2_with (first
    | fail
    | (refine wpList_load_row rfl 32 (.tmp 2) rfl w.heap.size rfl _ _ _ _ HB0.out Tryz.underlying32 rfl (by rw [sizeRef]; rfl) ?_)
    | (refine wpList_load_row rfl 54 (.tmp 3) rfl (w.heap.size + 1) rfl _ _ _ _ HC0.out Tryz.underlying54 rfl (by rw [sizeChg]; rfl) ?_))
  refine (HC.out _ HD.out.below).mono ?_
  rintro e2 w3 ⟨rfl, hb3⟩
  have D3 := HD.out.keep hb3
  have HD3 := Lib.hid D3
  have hb0 := D3.box
  have hr0 := D3.res
  unfold nilsR at hr0
  have HB3 := Lib.hid hb0
  have HR3 := Lib.hid hr0
  clear hb0 hr0 D3 hb3 HD HB0 HC0
  go_wp2_with (first
    | fail
    | (refine wpList_load_row rfl 32 (.tmp 2) rfl w.heap.size rfl _ _ _ _ HB3.out Tryz.underlying32 rfl (by rw [sizeRef]; rfl) ?_)
    | (refine wpList_store_row rfl 32 (.tmp 4) (.tmp 15) rfl (w.heap.size + 1 + 1) #[.slice an M.length cn, .slice al L.length cl, .slice ac M.length cc, .slice ad M.length cd, .slice aa M.length ca, .slice af (devL M 0).length cf] rfl rfl _ _ HR3.out sizeRef rfl (one6 _ _ _ _ _ _ _ _ _ _ _ _ _ _ _ _ _ _) ?_))
  refine bodyPost_ret (v := .tuple #[.agg #[.slice an M.length cn, .slice al L.length cl, .slice ac M.length cc, .slice ad M.length cd, .slice aa M.length ca, .slice af (devL M 0).length cf], .int .i64 0, .int .i64 e]) ?_ rfl ⟨⟨.slice an M.length cn, .slice al L.length cl, .slice ac M.length cc, .slice ad M.length cd, .slice aa M.length ca, .slice af (devL M 0).length cf⟩, L, ?_, ?_, ?_, by omega, ?_⟩
  · exact results_do rfl (setRow_heap _ _ _ _ _ _ HR3.out) rfl
  · rw [HRs.out.2, HE.out]; rfl
  · rw [HRs.out.1]
    exact (but_setRow HR3.out _).rs HR3.out (HH.out.keep HD3.out.below)
  · rw [HRs.out.1]; exact R
  · exact (but_setRow HR3.out _).below HD3.out.below (by omega) HD3.out.below.size
end Go.Proofs.YtigkdehaepenhaaGreatDoor.V
