/-
  What the program tells of one device: its row. Conditions: the file system lies in memory; the device's first is one of its nodes.
  What facts.Rows returns: a row for each device. Conditions: the file system lies in memory.
-/
import Derived.Test.YtknfhphhcnbndaaGreatDoorFJRowP
import Derived.Test.YtknfhphhcnbndaaGreatDoorFJCols
set_option linter.unusedVariables false
set_option linter.unusedSimpArgs false
namespace Go.Proofs.YtknfhphhcnbndaaGreatDoor.J
open List renaming setIfInBounds_toArray → lt, set_cons_zero → l0, set_cons_succ → ls
open Go.Proofs.YtknfhphhcnbndaaGreatDoor.B
open Go.RowKit

theorem row_one (a b c d e : Int) (s : ByteArray) : (#[.int .i64 a, .int .i64 b, .int .i64 c, .int .i64 d, .int .i64 e, .string s] : Array Value).all (·.oneCell') = true := by simp [Value.oneCell']
set_option maxRecDepth 100000 in
set_option maxHeartbeats 16000000 in
theorem rowOf_any {M : List V.Nd} {p : Nat} (k : Nat) (n : V.Nd) (all : Int) (v0 w : World) (hf : V.Has v0 p M w) (hG : GoodJ M) (hE : V.FewE M) (hR : V.RI M) (hD : V.DU M) (hn : M[k]? = some n) (ho : V.overI M (k : Int) = (k : Int)) (ha0 : 0 ≤ all) (ha1 : all ≤ 9223372036854775807) :
    Calls Tryz.prog 43 #[.pointer (some ⟨p, 0, none⟩), .int .i64 (k : Int), .int .i64 all] w fun e w' => e = .returned (.agg (rwC (rowJ M all n.dev (k : Int))).toArray) ∧ Below w.heap.size w w' := by
  have HNx := Lib.hid (fun (X : World) (hb : Below w.heap.size w X) => V.has_node (hf.keep hb) hn)
  have HUs := Lib.hid (fun (X : World) (hb : Below w.heap.size w X) => usedOn_any n.dev v0 X (hf.keep hb) hG)
  have HWh := Lib.hid (fun (X : World) (hb : Below w.heap.size w X) => where_any (k : Int) v0 X (hf.keep hb) hG hE hR hD ho)
  have HOn := Lib.hid (V.known_one n)
  have hub := used_bd hG.ok n.dev
  have HRw := Lib.hid (show rwC (rowJ M all n.dev (k : Int)) = [.int .i64 n.dev, .int .i64 all, .int .i64 (usedJ M n.dev), .int .i64 (max (all - usedJ M n.dev) 0), .int .i64 (N.pctZ (usedJ M n.dev) (N.cutZ (usedJ M n.dev + max (all - usedJ M n.dev) 0))), .string (whereJ M (k : Int))] from rfl)
  clear hf hG hE hR hD ho hn
  generalize whereJ M (k : Int) = AT at HWh HRw
  generalize usedJ M n.dev = U at HUs hub HRw
  generalize rwC (rowJ M all n.dev (k : Int)) = RR at HRw ⊢
  have iw : IntKind.i64.wrap (all - U) = all - U := IntWalk.i64_in _ (by omega)
  obtain ⟨Lf, hLf⟩ : ∃ Lf, max (all - U) 0 = Lf := ⟨_, rfl⟩
  rw [hLf] at HRw
  have hlb : 0 ≤ Lf ∧ Lf ≤ 9223372036854775807 := by omega
  have HPc := Lib.hid (fun (X : World) => N.percent_any U (N.cutZ (U + Lf)) X (by omega) (by omega) (N.cutZ_bd (U + Lf)).1 (N.cutZ_bd (U + Lf)).2)
  have HAd := Lib.hid (fun (g : Nat) (X : World) (h0 : X.cell? ⟨g, 0, none⟩ = some (.int .i64 U)) (h1 : X.cell? ⟨g, 1, none⟩ = some (.int .i64 Lf)) => add2_any U Lf g X h0 h1 (by omega) (by omega))
  generalize N.cutZ (U + Lf) = S at HPc HAd HRw
  unfold N.pctPost at HPc
  generalize N.pctZ U S = PC at HPc HRw
  unfold V.knownV V.Nd.known at HNx
  unfold V.Nd.known at HOn
  go_enter Tryz.func43, Tryz.ntmps43
  go_upto_region 1 with fail
  obtain ⟨B1, hB1⟩ : ∃ B1, w.heap.size = B1 := ⟨_, rfl⟩
  obtain ⟨w1, hw1⟩ : ∃ w1, w.alloc (.cells #[.int .i64 0, .int .i64 0, .int .i64 0, .int .i64 0, .int .i64 0, .string ⟨#[]⟩] 38) = w1 := ⟨_, rfl⟩
  have HB1 := Lib.hid (show Below w.heap.size w w1 from by rw [← hw1]; exact (Below.refl _ _).alloc (Nat.le_refl _) _)
  have HX1 := Lib.hid (show w1.heap[B1]? = some (.cells #[.int .i64 0, .int .i64 0, .int .i64 0, .int .i64 0, .int .i64 0, .string ⟨#[]⟩] 38 (0, 0)) from by rw [← hw1, ← hB1]; exact heap_alloc_new _ _)
  have HLe := Lib.hid (show w.heap.size ≤ B1 from by omega)
  rw [hw1, hB1]
  clear hw1 hB1
  go_upto_region 2 with (first
    | (go_at_call 30; refine (HNx.out _ HB1.out).mono ?_; rintro e w2 ⟨rfl, hb⟩; have HB2 := Lib.hid (show Below w1.heap.size w1 w2 from hb); clear hb)
    | (refine wpList_store_row rfl 66 (.tmp 7) (.tmp 15) rfl w2.heap.size #[.int .i64 n.dev, .int .i64 n.ino, .int .i64 n.kind, .int .i64 n.mode, .int .i64 n.uid, .int .i64 n.gid, .int .i64 n.size, .int .i64 n.blocks, .int .i64 n.links, .int .i64 n.t0, .int .i64 n.t1, .int .i64 n.t2, .string n.target] rfl rfl _ _ (heap_alloc_new _ _) (by rw [sizeNd]; rfl) rfl HOn.out ?_; rw [World.setRow_alloc_new]))
  have HB3 := Lib.hid (show Below w1.heap.size w1 (w2.alloc (.cells #[.int .i64 n.dev, .int .i64 n.ino, .int .i64 n.kind, .int .i64 n.mode, .int .i64 n.uid, .int .i64 n.gid, .int .i64 n.size, .int .i64 n.blocks, .int .i64 n.links, .int .i64 n.t0, .int .i64 n.t1, .int .i64 n.t2, .string n.target] 66)) from below_two HB2.out ((Below.refl _ _).alloc (Nat.le_refl _) _))
  have HX3 := Lib.hid (heap_alloc_new w2 (.cells #[.int .i64 n.dev, .int .i64 n.ino, .int .i64 n.kind, .int .i64 n.mode, .int .i64 n.uid, .int .i64 n.gid, .int .i64 n.size, .int .i64 n.blocks, .int .i64 n.links, .int .i64 n.t0, .int .i64 n.t1, .int .i64 n.t2, .string n.target] 66))
  generalize w2.alloc (.cells #[.int .i64 n.dev, .int .i64 n.ino, .int .i64 n.kind, .int .i64 n.mode, .int .i64 n.uid, .int .i64 n.gid, .int .i64 n.size, .int .i64 n.blocks, .int .i64 n.links, .int .i64 n.t0, .int .i64 n.t1, .int .i64 n.t2, .string n.target] 66) = w3 at HB3 HX3 ⊢
  generalize w2.heap.size = b2 at HX3 ⊢
  clear HB2 HNx HOn
  have HCd := Lib.hid (show ∀ X, Below w3.heap.size w3 X → X.cell? ⟨b2, 0, none⟩ = some (.int .i64 n.dev) from fun X hb => by rw [cell_of_row _ _ _ _ _ _ (V.box_keep2 HX3.out hb)]; rfl)
  generalize n.dev = dv at HCd HUs HRw
  have c0 := HCd.out _ (Below.refl _ _)
  go_upto_region 3 with (go_at_call 91; refine (HUs.out _ (below_two HB1.out HB3.out)).mono ?_; rintro e w4 ⟨rfl, hb⟩; have HB4 := Lib.hid (show Below w3.heap.size w3 w4 from hb); clear hb)
  clear c0 HUs
  go_upto_region 4 with fail
-- TILL 4
  refine B.Till.region (z := 15) (S := fun w' => Below w4.heap.size w4 w') (by kernel_rfl) ((Below.refl _ _).drew) (fun hHeld => ?_)
  refine B.Till.take (i := 0) (oi := ⟨some 25, .fieldAddr 66 (.tmp 7) 0, 0, "facts.go:145", #[], none⟩) (v := .pointer (some ⟨b2, 0, none⟩)) rfl (by kernel_rfl) (by kernel_rfl) (by kernel_rfl) (by kernel_rfl) (fun _ _ _ h => h) (Or.inl ⟨by rfl, fun w0 hS0 => ?_⟩) (by assumption) ?_
  · go_simp
  try simp only [Act.put, lt, l0, ls]
  refine B.Till.take (i := 1) (oi := ⟨some 26, .load 3 (.tmp 25), 3, "facts.go:145", #[⟨0, .data⟩], none⟩) (v := .int .i64 dv) rfl (by kernel_rfl) (by kernel_rfl) (by kernel_rfl) (by kernel_rfl) (fun _ _ _ h => h) (Or.inl ⟨by rfl, fun w0 hS0 => ?_⟩) (by assumption) ?_
  · have b8 := HCd.out _ (below_two HB4.out hS0); go_simp
  try simp only [Act.put, lt, l0, ls]
  refine B.Till.take (i := 2) (oi := ⟨some 27, .move (.tmp 2), 2, "facts.go:145", #[], none⟩) (v := .int .i64 all) rfl (by kernel_rfl) (by kernel_rfl) (by kernel_rfl) (by kernel_rfl) (fun _ _ _ h => h) (Or.inl ⟨by rfl, fun w0 hS0 => ?_⟩) (by assumption) ?_
  · go_simp
  try simp only [Act.put, lt, l0, ls]
  refine B.Till.take (i := 3) (oi := ⟨some 28, .move (.tmp 9), 2, "facts.go:145", #[], none⟩) (v := .int .i64 U) rfl (by kernel_rfl) (by kernel_rfl) (by kernel_rfl) (by kernel_rfl) (fun _ _ _ h => h) (Or.inl ⟨by rfl, fun w0 hS0 => ?_⟩) (by assumption) ?_
  · go_simp
  try simp only [Act.put, lt, l0, ls]
  refine B.Till.take (i := 4) (oi := ⟨some 29, .move (.tmp 10), 2, "facts.go:145", #[], none⟩) (v := .int .i64 Lf) rfl (by kernel_rfl) (by kernel_rfl) (by kernel_rfl) (by kernel_rfl) (fun _ _ _ h => h) (Or.inl ⟨by rfl, fun w0 hS0 => ?_⟩) (by assumption) ?_
  · go_simp
  try simp only [Act.put, lt, l0, ls]
  refine B.Till.take (i := 5) (oi := ⟨some 30, .move (.tmp 9), 2, "facts.go:145", #[], none⟩) (v := .int .i64 U) rfl (by kernel_rfl) (by kernel_rfl) (by kernel_rfl) (by kernel_rfl) (fun _ _ _ h => h) (Or.inl ⟨by rfl, fun w0 hS0 => ?_⟩) (by assumption) ?_
  · go_simp
  try simp only [Act.put, lt, l0, ls]
  refine B.Till.take (i := 6) (oi := ⟨some 31, .move (.tmp 9), 2, "facts.go:145", #[], none⟩) (v := .int .i64 U) rfl (by kernel_rfl) (by kernel_rfl) (by kernel_rfl) (by kernel_rfl) (fun _ _ _ h => h) (Or.inl ⟨by rfl, fun w0 hS0 => ?_⟩) (by assumption) ?_
  · go_simp
  try simp only [Act.put, lt, l0, ls]
  refine B.Till.take (i := 7) (oi := ⟨some 32, .move (.tmp 10), 2, "facts.go:145", #[], none⟩) (v := .int .i64 Lf) rfl (by kernel_rfl) (by kernel_rfl) (by kernel_rfl) (by kernel_rfl) (fun _ _ _ h => h) (Or.inl ⟨by rfl, fun w0 hS0 => ?_⟩) (by assumption) ?_
  · go_simp
  try simp only [Act.put, lt, l0, ls]
  refine B.Till.take (i := 11) (oi := ⟨some 36, .move (.tmp 0), 25, "facts.go:145", #[], none⟩) (v := .pointer (some ⟨p, 0, none⟩)) rfl (by kernel_rfl) (by kernel_rfl) (by kernel_rfl) (by kernel_rfl) (fun _ _ _ h => h) (Or.inl ⟨by rfl, fun w0 hS0 => ?_⟩) (by assumption) ?_
  · go_simp
  try simp only [Act.put, lt, l0, ls]
  refine B.Till.take (i := 12) (oi := ⟨some 37, .move (.tmp 1), 3, "facts.go:145", #[], none⟩) (v := .int .i64 (k : Int)) rfl (by kernel_rfl) (by kernel_rfl) (by kernel_rfl) (by kernel_rfl) (fun _ _ _ h => h) (Or.inl ⟨by rfl, fun w0 hS0 => ?_⟩) (by assumption) ?_
  · go_simp
  try simp only [Act.put, lt, l0, ls]
  refine B.Till.next (i := 8) (o := ⟨some 33, .buildSlice 101 2 #[(0, .tmp 31), (1, .tmp 32)], 101, "facts.go:145", #[⟨6, .data⟩, ⟨7, .data⟩], none⟩) (by kernel_rfl) rfl (fun K hK => ?_)
  go_simp
  refine hK.out _ _ (fun _ => below_two hHeld ((Below.refl _ _).alloc (Nat.le_refl _) _)) ?_
  clear hK K
  try simp only [Act.put, lt, l0, ls]
  refine B.Till.next (i := 9) (o := ⟨some 34, .call ⟨.value (.func 93), #[.tmp 33], #[101]⟩, 2, "facts.go:150", #[⟨8, .data⟩], none⟩) (by kernel_rfl) rfl (fun K hK => ?_)
  go_simp
  refine (HAd.out w4.heap.size (w4.alloc (.cells #[.int .i64 U, .int .i64 Lf] 2)).drew (show (w4.alloc (.cells #[.int .i64 U, .int .i64 Lf] 2)).cell? ⟨w4.heap.size, 0, none⟩ = some (.int .i64 U) from by rw [cell_of_row _ _ _ _ _ _ (heap_alloc_new _ _)]; rfl) (show (w4.alloc (.cells #[.int .i64 U, .int .i64 Lf] 2)).cell? ⟨w4.heap.size, 1, none⟩ = some (.int .i64 Lf) from by rw [cell_of_row _ _ _ _ _ _ (heap_alloc_new _ _)]; rfl)).mono ?_
  rintro e w5 ⟨rfl, hw5⟩
  have hH5 : Below w4.heap.size w4 w5 := by rw [← hw5]; exact below_two hHeld ((Below.refl _ _).alloc (Nat.le_refl _) _)
  clear hw5
  go_wp2_with fail
  refine hK.out _ _ (fun _ => hH5) ?_
  clear hK K
  try simp only [Act.put, lt, l0, ls]
  refine B.Till.next (i := 10) (o := ⟨some 35, .call ⟨.value (.func 92), #[.tmp 30, .tmp 34], #[2, 2]⟩, 2, "facts.go:150", #[⟨5, .data⟩, ⟨9, .data⟩, ⟨9, .chain⟩], none⟩) (by kernel_rfl) rfl (fun K hK => ?_)
  go_simp
  refine (HPc.out _).mono ?_
  rintro e w6 ⟨rfl, q6, rfl⟩
  have hH6 : Below w4.heap.size w4 (w5.drewN q6) := below_drewNb hH5
  generalize w5.drewN q6 = w6 at hH6 ⊢
  go_wp2_with fail
  refine hK.out _ _ (fun _ => hH6) ?_
  clear hK K
  try simp only [Act.put, lt, l0, ls]
  refine B.Till.next (i := 13) (o := ⟨some 38, .call ⟨.value (.func 94), #[.tmp 36, .tmp 37], #[25, 3]⟩, 9, "facts.go:151", #[⟨11, .data⟩, ⟨12, .data⟩, ⟨10, .chain⟩], none⟩) (by kernel_rfl) rfl (fun K hK => ?_)
  go_simp
  refine (HWh.out _ (below_two HB1.out (below_two HB3.out (below_two HB4.out hH6)))).mono ?_
  rintro e w7 ⟨rfl, hb7⟩
  have hH7 : Below w4.heap.size w4 w7 := below_two hH6 hb7
  clear hb7
  go_wp2_with fail
  refine hK.out _ _ (fun _ => hH7) ?_
  clear hK K
  try simp only [Act.put, lt, l0, ls]
  refine B.Till.take (i := 14) (oi := ⟨some 39, .build 38 #[(0, .tmp 26), (1, .tmp 27), (2, .tmp 28), (3, .tmp 29), (4, .tmp 35), (5, .tmp 38)], 38, "facts.go:145", #[⟨1, .data⟩, ⟨2, .data⟩, ⟨3, .data⟩, ⟨4, .data⟩, ⟨10, .data⟩, ⟨13, .data⟩], none⟩) (v := .agg #[.int .i64 dv, .int .i64 all, .int .i64 U, .int .i64 Lf, .int .i64 PC, .string AT]) rfl (by kernel_rfl) (by kernel_rfl) (by kernel_rfl) (by kernel_rfl) (fun _ _ _ h => h) (Or.inl ⟨by rfl, fun w0 hS0 => ?_⟩) (by assumption) ?_
  · go_simp
  try simp only [Act.put, lt, l0, ls]
  refine B.Till.next (i := 15) (o := ⟨none, .store 38 (.tmp 6) (.tmp 39), 0, "facts.go:145", #[⟨14, .data⟩, ⟨13, .chain⟩, ⟨0, .phase⟩, ⟨1, .phase⟩, ⟨2, .phase⟩, ⟨3, .phase⟩, ⟨4, .phase⟩, ⟨5, .phase⟩, ⟨6, .phase⟩, ⟨7, .phase⟩, ⟨8, .phase⟩, ⟨9, .phase⟩, ⟨10, .phase⟩, ⟨11, .phase⟩, ⟨12, .phase⟩, ⟨13, .phase⟩, ⟨14, .phase⟩], none⟩) (by kernel_rfl) rfl (fun K hK => ?_)
  have HBd := Lib.hid (below_two HB3.out (below_two HB4.out hH7))
  have HXe := Lib.hid ((HBd.out.block _ (heap_lt HX1.out)).trans HX1.out)
  have HBe := Lib.hid (below_two HB1.out HBd.out)
  refine step_store_own rfl 38 (.tmp 6) (.tmp 39) rfl B1 #[.int .i64 dv, .int .i64 all, .int .i64 U, .int .i64 Lf, .int .i64 PC, .string AT] rfl rfl 38 _ HXe.out sizeRw rfl (row_one _ _ _ _ _ _) ?_
  refine hK.out _ _ (fun q => absurd rfl q) ?_
  clear hK K
  try simp only [Act.put, lt, l0, ls]
  refine B.Till.done (by kernel_rfl) ?_
  go_wp2_with fail
-- TILL 4 END
  refine bodyPost_ret (v := .agg #[.int .i64 dv, .int .i64 all, .int .i64 U, .int .i64 Lf, .int .i64 PC, .string AT]) ?_ rfl ⟨by rw [HRw.out], below_setR HBe.out HLe.out _⟩
  exact results_cell_row Tryz.results43 _ _ B1 _ _ _ _ rfl (setRow_heap _ _ _ _ _ _ HXe.out) Tryz.underlying38 rfl sizeRw
end Go.Proofs.YtknfhphhcnbndaaGreatDoor.J

namespace Go.Proofs.YtknfhphhcnbndaaGreatDoor.J
open List renaming setIfInBounds_toArray → lt, set_cons_zero → l0, set_cons_succ → ls
open Go.Proofs.YtknfhphhcnbndaaGreatDoor.B
open Go.RowKit

theorem infoRw : (Tryz.prog.info? 38).map (fun i => (i.zero, i.size, i.bytes)) = some (some (.agg #[.int .i64 0, .int .i64 0, .int .i64 0, .int .i64 0, .int .i64 0, .string ⟨#[]⟩]), 6, 56) := by kernel_rfl
theorem rowsL_take (M : List V.Nd) (all : Int) {L : List Int} {k : Nat} {f : Int} (h : L[k]? = some f) : rowsL M all (L.take (k + 1)) 0 = rowsL M all (L.take k) 0 ++ [rowJ M all ((k : Int) + 1) f] := by
  obtain ⟨hk, he⟩ := List.getElem?_eq_some_iff.1 h
  rw [List.take_succ_eq_append_getElem hk, he, rowsL_snoc, List.length_take, Nat.min_eq_left (Nat.le_of_lt hk), Nat.zero_add]
/-- Each device's first is a directory. -/
def KI (M : List V.Nd) : Prop := ∀ n ∈ M, n.ino = 1 → n.kind = 2
theorem cnt_pos {d : Int} {x : V.Nd} (hd : x.dev = d) : ∀ l : List V.Nd, x ∈ l → 1 ≤ V.cntD d l
  | [], h => absurd h (by simp)
  | y :: r, h => by
    have hb := (V.cntD_bd d r).1
    have e : V.cntD d (y :: r) = (if y.dev = d then 1 else 0) + V.cntD d r := rfl
    rw [e]
    rcases List.mem_cons.1 h with q | q
    · rw [← q, if_pos hd]; omega
    · have := cnt_pos hd r q
      split <;> omega
theorem ki_mod {M : List V.Nd} {i : Nat} {f : V.Nd → V.Nd} (h : KI M) (hf : ∀ n, (f n).ino = n.ino ∧ (f n).kind = n.kind) : KI (M.modify i f) :=
  V.all_modify (P := fun n => n.ino = 1 → n.kind = 2) (P' := fun n => n.ino = 1 → n.kind = 2) h (fun _ q => q) (fun n q => by rw [(hf n).1, (hf n).2]; exact q)
theorem ki_app {M : List V.Nd} {n : V.Nd} (h : KI M) (hn : n.ino = 1 → n.kind = 2) : KI (M ++ [n]) := fun x hx => by
  rcases List.mem_append.1 hx with hx | hx
  · exact h x hx
  · obtain rfl := List.mem_singleton.1 hx; exact hn
theorem ki_built {M : List V.Nd} {i : Nat} {s : ByteArray} {n x : V.Nd} {d : Int} (h : KI M) (hx : x ∈ M) (hd : x.dev = d) : KI (V.builtM M i s n d) :=
  ki_mod (ki_mod (ki_app h (fun q => absurd q (by
    show ¬ 1 + V.cntD d M = 1
    have := cnt_pos hd M hx
    omega))) fun _ => ⟨rfl, rfl⟩) fun _ => ⟨rfl, rfl⟩
theorem ki_do {M : List V.Nd} {c : V.Chg} (H : KI M) : KI (V.doM M c) := by
  unfold V.doM
  split
  · rename_i hw
    have hat : ∀ (_ : 0 ≤ c.kind) (_ : c.kind < 4), ∃ x, x ∈ M ∧ x.dev = (V.atM M c.at_).elim 0 (·.dev) := fun k0 k3 => by
      obtain ⟨x, hx, _⟩ := V.wrong_entry hw k0 k3
      obtain ⟨i, _, hxi⟩ := V.atM_some hx
      exact ⟨x, List.mem_of_getElem? hxi, by rw [hx]; rfl⟩
    unfold V.carryM
    split
    · obtain ⟨x, hx, hd⟩ := hat (by omega) (by omega)
      exact ki_built H hx hd
    · split
      · obtain ⟨x, hx, hd⟩ := hat (by omega) (by omega)
        exact ki_built H hx hd
      · split
        · exact ki_mod (ki_mod H fun _ => ⟨rfl, rfl⟩) fun _ => ⟨rfl, rfl⟩
        · split
          · obtain ⟨x, hx, hd⟩ := hat (by omega) (by omega)
            exact ki_built H hx hd
          · split
            · unfold V.coveredM
              exact ki_mod (ki_app H fun _ => rfl) fun _ => ⟨rfl, rfl⟩
            · refine ki_mod H (fun n => ?_)
              unfold V.setNd
              repeat' split
              all_goals exact ⟨rfl, rfl⟩
  · exact H
theorem runM_ki : ∀ (cs : List V.Chg) (M : List V.Nd), KI M → KI (V.runM cs M)
  | [], M, h => h
  | c :: r, M, h => runM_ki r (V.doM M c) (ki_do h)
theorem ki_new : KI V.newM := fun n hn _ => by
  obtain rfl : n = V.addedNd (V.dirNd 493 0) 1 [] := by simpa [V.newM] using hn
  rfl
def PRel (M : List V.Nd) (all : Int) (L : List Int) (w : World) (v5 v11 : Value) (wr : World) : Prop := ∃ k : Nat, k ≤ L.length ∧ v11 = .int .i64 (k : Int) ∧ Hid (wr.ownsRow w.heap.size 38 6 v5 k (cellsC rwC (rowsL M all (L.take k) 0))) ∧ Hid (Below w.heap.size w wr)
theorem dev_cover {M : List V.Nd} (hG : GoodJ M) (hR : V.RI M) (hK : KI M) {i : Nat} {f : Int} (h : (V.devL M 0)[i]? = some f) : ∃ (k : Nat) (n : V.Nd), f = (k : Int) ∧ M[k]? = some n ∧ n.dev = (i : Int) + 1 ∧ V.overI M (k : Int) = (k : Int) ∧ V.kindM M (k : Int) = 2 := by
  obtain ⟨k, n, e, hn, hi, hd⟩ := dev_first hG.dev h
  refine ⟨k, n, e, hn, hd, ?_, ?_⟩
  · unfold V.overI
    rw [V.atM_nat hn]
    exact (hR.cov k n hn).1 hi
  · rw [V.kind_nat hn]
    exact hK n (List.mem_of_getElem? hn) hi
set_option maxRecDepth 100000 in
set_option maxHeartbeats 16000000 in
theorem rows_any {M : List V.Nd} {p : Nat} (all : Int) (v0 w : World) (hf : V.Has v0 p M w) (hG : GoodJ M) (hE : V.FewE M) (hR : V.RI M) (hD : V.DU M) (hK : KI M) (ha : I64 all) :
    Calls Tryz.prog 16 #[.pointer (some ⟨p, 0, none⟩), .int .i64 all] w fun e w' => ∃ v, e = .returned v ∧ w'.ownsRow w.heap.size 38 6 v (allRows M all).length (cellsC rwC (allRows M all)) ∧ Below w.heap.size w w' := by
  obtain ⟨j0, hj0, hy0, hy1, hy2⟩ := info_parts infoRw
  have hML := hG.few
  have HDv := Lib.hid (V.has_devices hf hG.pos (by omega))
  obtain ⟨Am, hAm⟩ : ∃ Am, max all 0 = Am := ⟨_, rfl⟩
  have hab : 0 ≤ Am ∧ Am ≤ 9223372036854775807 := by have := ha.2; omega
  have HRo := Lib.hid (show ∀ (i : Nat) (f : Int), (V.devL M 0)[i]? = some f → ∀ X : World, Below w.heap.size w X → Calls Tryz.prog 43 #[.pointer (some ⟨p, 0, none⟩), .int .i64 f, .int .i64 Am] X fun e w' => e = .returned (.agg (rwC (rowJ M Am ((i : Int) + 1) f)).toArray) ∧ Below X.heap.size X w' from fun i f h X hb => by
    obtain ⟨k, n, rfl, hn, hd, ho, _⟩ := dev_cover hG hR hK h
    have := rowOf_any k n Am v0 X (hf.keep hb) hG hE hR hD hn ho hab.1 hab.2
    rw [hd] at this
    exact this)
  have HAl := Lib.hid (show allRows M all = rowsL M Am (V.devL M 0) 0 from by unfold allRows; rw [hAm])
  have hDl : (V.devL M 0).length ≤ 1000000 := by have := V.devL_len M 0; omega
  clear hf hG hE hR hD hK ha
  generalize V.devL M 0 = L at HDv HRo HAl hDl
  have hAll : (allRows M all).length = L.length := by rw [HAl.out, rowsL_len]
  rw [hAll]
  clear hAll
  go_enter Tryz.func16, Tryz.ntmps16
  go_wp2_with (go_at_call 42; refine HDv.out.mono ?_; rintro e w2 ⟨v2, rfl, ho2, hb2⟩; obtain ⟨o2, c2, rfl⟩ := owns_form ho2; have HO2 := Lib.hid ho2; have HB2 := Lib.hid hb2; clear ho2 hb2)
  go_loopw [5, 11] (PRel M Am L w2) (fun _ v _ => L.length - (intOf v).toNat)
  case atStart => exact ⟨0, Nat.zero_le _, rfl, Lib.hid (World.ownsRow_nil _ _ _ _), Lib.hid (Below.refl _ _)⟩
  case round =>
    obtain ⟨k, hk, rfl, HO, HB⟩ := hrel
    by_cases hlt : k < L.length
    · have e1 : decide ((k : Int) < (L.length : Int)) = true := decide_eq_true (by omega)
      obtain ⟨f, hf⟩ : ∃ f, L[k]? = some f := ⟨_, List.getElem?_eq_getElem hlt⟩
      obtain ⟨g, cg, e2, _, _⟩ := V.owns_some HO2.out (by omega)
      simp only [Value.slice.injEq] at e2
      obtain ⟨rfl, _, rfl⟩ := e2
      have cf : wr.cell? ⟨g, k, none⟩ = some (.int .i64 f) := (HB.out.cell (p := ⟨g, k, none⟩) (HO2.out.lt g rfl).2).trans (V.owns_cell HO2.out (V.ints_at hf))
      have HRk := Lib.hid (HRo.out k f hf)
      have HTk := Lib.hid (show cellsC rwC (rowsL M Am (L.take (k + 1)) 0) = cellsC rwC (rowsL M Am (L.take k) 0) ++ rwC (rowJ M Am ((k : Int) + 1) f) from by rw [rowsL_take M Am hf, cellsC_app, cellsC_one])
      obtain ⟨rw, hrw⟩ : ∃ r, rowJ M Am ((k : Int) + 1) f = r := ⟨_, rfl⟩
      rw [hrw] at HRk HTk
      have HOn := Lib.hid (rwC_one rw)
      obtain ⟨ao, ac, hv5⟩ := owns_form HO.out
      subst hv5
      clear hf hrw HRo
      unfold rwC at HRk HOn HTk HO
      go_wp2_with fail
      refine (HRk.out _ (HB2.out.trans (HB.out.mono HB2.out.size))).mono ?_
      rintro e w5 ⟨rfl, hb5⟩
      have HO5 := Lib.hid (owns_to HO.out hb5)
      have HB5 := Lib.hid (HB.out.trans (hb5.mono HB.out.size))
      clear hb5 HO HB HRk cf
      have HAa := Lib.hid (show Below w5.heap.size w5 (w5.alloc (.cells #[.int .i64 rw.dev, .int .i64 rw.all, .int .i64 rw.used, .int .i64 rw.left, .int .i64 rw.pct, .string rw.at_] 38)) from (Below.refl _ _).alloc (Nat.le_refl _) _)
      go_wp2_with (at_builtin; go_loud (refine wpList_append_lies _ rfl (.tmp 15) (.tmp 21) 34 rfl w2.heap.size 38 j0 _ 6 56 Tryz.underlying34 hj0 hy0 hy1 hy2 rfl (by decide) (.slice ao k ac) k (cellsC (fun r => [.int .i64 r.dev, .int .i64 r.all, .int .i64 r.used, .int .i64 r.left, .int .i64 r.pct, .string r.at_]) (rowsL M Am (L.take k) 0)) rfl (by with_reducible exact owns_to HO5.out HAa.out) ⟨w5.heap.size, 0, none⟩ 1 1 [.int .i64 rw.dev, .int .i64 rw.all, .int .i64 rw.used, .int .i64 rw.left, .int .i64 rw.pct, .string rw.at_] rfl rfl (World.news_of_block (heap_alloc_new _ _)) HOn.out (by decide) (by unfold maxLen; omega) (by omega) (Nat.le_trans HB5.out.size HAa.out.size) _ rfl ?_; intro g1 cap1 w11 hown hgrow hat hlt1))
      refine ⟨⟨k + 1, by omega, by simp, Lib.hid ?_, Lib.hid ((HB5.out.trans (HAa.out.mono HB5.out.size)).grown hgrow (Nat.le_trans HB5.out.size HAa.out.size) (fun j hj => (HO5.out.lt j hj).1))⟩, by simp [intOf]; omega⟩
      show w11.ownsRow w2.heap.size 38 6 _ _ (cellsC (fun r => [.int .i64 r.dev, .int .i64 r.all, .int .i64 r.used, .int .i64 r.left, .int .i64 r.pct, .string r.at_]) (rowsL M Am (L.take (k + 1)) 0))
      rw [HTk.out]
      exact hown
    · have hkn : k = L.length := by omega
      have e1 : decide ((k : Int) < (L.length : Int)) = false := decide_eq_false (by omega)
      rw [show L.take k = L by rw [hkn]; exact List.take_length] at HO
      have HK := Lib.hid hkn
      clear hkn
      go_wp2_with fail
      go_ret
      refine ⟨_, rfl, ?_, HB2.out.trans (HB.out.mono HB2.out.size)⟩
      have q := owns_low HO.out HB2.out.size
      rw [HAl.out]
      rw [HK.out] at q
      exact q
end Go.Proofs.YtknfhphhcnbndaaGreatDoor.J
