/-
 What the program's Sorted and Total return.
 Conditions: each fact's own.
-/
import Derived.Test.YtfhagjnlliafiaaGreatDoorKISort
import Derived.Test.YtfhagjnlliafiaaGreatDoorKAdd
import Derived.Test.YtfhagjnlliafiaaGreatDoorKVRefAsk
import Derived.Test.YtfhagjnlliafiaaGreatDoorKOArr
import Derived.Deep.CutRange
set_option linter.unusedSimpArgs false
set_option linter.unusedVariables false
set_option maxHeartbeats 16000000
set_option maxRecDepth 100000
open List renaming setIfInBounds_toArray → lt, set_cons_zero → l0, set_cons_succ → ls
open Go.Act renaming put → u
namespace Go.Proofs.YtfhagjnlliafiaaGreatDoor.I
open Go.Proofs.YtfhagjnlliafiaaGreatDoor.B
open Go.RowKit
theorem infoEn : (Tryz.prog.info? 46).map (fun i => (i.zero, i.size, i.bytes)) = some (some (.agg #[.string ⟨#[]⟩, .int .i64 0]), 2, 24) := by kernel_rfl
theorem item_at {M : List V.Nd} {T : List En} {w w' : World} {b g fc : Nat} (h : w.ownsRow b 65 16 (.slice (some ⟨g, 0, none⟩) T.length fc) T.length (cellsC (itC M) T)) (hb : Below w.heap.size w w') {i : Nat} {en : En} (hen : T[i]? = some en) : w'.rangeAt g (i * 16) (itC M en) := by
 obtain ⟨a', c', e1, r1, _, _, _⟩ := RowL.of_owns (itC_len M) (owns_to h hb)
 simp only [Value.slice.injEq] at e1
 obtain ⟨rfl, _, _⟩ := e1
 obtain ⟨g', o', e2, _, r2⟩ := r1.at_ hen
 simp only [Option.some.injEq, Addr.mk.injEq] at e2
 obtain ⟨rfl, rfl, _⟩ := e2
 rwa [Nat.zero_add] at r2
def EntsRel (T : List En) (w2 : World) (v7 v15 : Value) (wr : World) : Prop :=
 ∃ j : Nat, j ≤ T.length ∧ v15 = .int .i64 (j : Int) ∧ Hid (wr.ownsRow w2.heap.size 46 2 v7 j (cellsC enC (T.take j))) ∧ Hid (Below w2.heap.size w2 wr)
theorem psorted_any {M : List V.Nd} {p : Nat} (h : Hw) (l : List En) (a : Option Addr) (cap : Nat) (v0 w : World) (hf : V.Has v0 p M w) (hG : GoodI M) (H : EntL w a l) (hl : l.length ≤ 1000) (hz : ∀ e ∈ l, e.1.size ≤ 60000) :
  Calls Tryz.prog 9 #[.pointer (some ⟨p, 0, none⟩), .slice a l.length cap, hwV h] w fun e w' => ∃ v out, e = .returned v ∧ SortedI M h.order h.rev h.dirs h.clock l out ∧ w'.ownsRow w.heap.size 46 2 v out.length (cellsC enC out) ∧ Below w.heap.size w w' := by
 obtain ⟨i0, hi0, hz0, hz1, hz2⟩ := info_parts infoEn
 have HSo := Lib.hid (fun (W : World) (hb : Below w.heap.size w W) => sorted_any h l a cap v0 W (hf.keep hb) hG (H.keep hb) hl hz)
 clear hf hG H hz
 unfold hwV at HSo ⊢
 go_enter Tryz.func9, Tryz.ntmps9
 go_upto_region 2 with fail
 obtain ⟨w1, hw1⟩ : ∃ w1, w.alloc (.cells #[.int .i64 h.form, .int .i64 h.most, .int .i64 h.order, .bool h.rev, .bool h.dirs, .int .i64 h.clock, .int .i64 h.quote, .bool h.mark, .bool h.inode, .bool h.blocks, .int .i64 h.style, .string h.own, .int .i64 h.now, .int .i64 h.offset] 25) = w1 := ⟨_, rfl⟩
 have HB1 := Lib.hid (show Below w.heap.size w w1 from by rw [← hw1]; exact (Below.refl _ _).alloc (Nat.le_refl _) _)
 have HX1 := Lib.hid (show w1.heap[w.heap.size]? = some (.cells #[.int .i64 h.form, .int .i64 h.most, .int .i64 h.order, .bool h.rev, .bool h.dirs, .int .i64 h.clock, .int .i64 h.quote, .bool h.mark, .bool h.inode, .bool h.blocks, .int .i64 h.style, .string h.own, .int .i64 h.now, .int .i64 h.offset] 25) from by rw [← hw1]; exact heap_alloc_new _ _)
 rw [hw1]
 clear hw1
 go_wp2_with (refine wpList_load_row rfl 25 (.tmp 5) rfl w.heap.size rfl 25 _ (0, 0) _ HX1.out Tryz.underlying25 rfl sizeHw ?_)
 refine (HSo.out _ HB1.out).mono ?_
 rintro e w2 ⟨tv, T, rfl, hS, hot, hb2⟩
 have HS := Lib.hid hS
 have HOt := Lib.hid hot
 have HB2 := Lib.hid (below_two HB1.out hb2)
 obtain ⟨ta, tc, htv⟩ := owns_form hot
 subst htv
 have hTl : T.length ≤ 1000 := by have := hS.len; have := there_len M l; omega
 clear hS hot hb2 HB1 HX1 HSo
 go_wp2_with fail
 go_loopw [7, 15] (EntsRel T w2) (fun _ v _ => T.length - (intOf v).toNat)
 case atStart => exact ⟨0, Nat.zero_le _, rfl, Lib.hid (World.ownsRow_nil _ _ _ _), Lib.hid (Below.refl _ _)⟩
 case round =>
  obtain ⟨j, hj, rfl, HO, HB⟩ := hrel
  by_cases hlt : j < T.length
  ·obtain ⟨en, hen⟩ : ∃ en, T[j]? = some en := ⟨_, List.getElem?_eq_getElem hlt⟩
   obtain ⟨g, cg, hv, _, _⟩ := owns_some HOt.out (show 0 < T.length by omega)
   simp only [Value.slice.injEq] at hv
   obtain ⟨rfl, _, rfl⟩ := hv
   have HRg := Lib.hid (item_at HOt.out HB.out hen)
   have HTk := Lib.hid (show T.take (j + 1) = T.take j ++ [en] from take_one hen)
   unfold itC itL at HRg
   generalize V.nvAt M (V.overI M en.2) = nd at HRg
   generalize V.overI M en.2 = oi at HRg
   clear hen
   go_upto_region 5 with (refine wpList_load_mid rfl 65 (.tmp 17) rfl g (j * 16) rfl _ _ HRg.out Tryz.underlying65 rfl sizeIt ?_)
   have HA8 := Lib.hid (show Below wr.heap.size wr (wr.alloc (.cells (itL en.1 en.2 oi nd).toArray 65)) from (Below.refl _ _).alloc (Nat.le_refl _) _)
   have HX8 := Lib.hid (heap_alloc_new wr (.cells (itL en.1 en.2 oi nd).toArray 65))
   unfold itL at HA8 HX8
   generalize wr.alloc (.cells _ 65) = w8 at HA8 HX8 ⊢
   have HB8 := Lib.hid (HB.out.trans (HA8.out.mono HB.out.size))
   have HO8 := Lib.hid (owns_to HO.out HA8.out)
   generalize wr.heap.size = B8 at HX8 ⊢
   clear HA8 HRg HO HB
   have x0 : w8.cell? ⟨B8, 0, none⟩ = some (.string en.1) := by rw [cell_of_row _ _ _ _ _ _ HX8.out]; rfl
   have x1 : w8.cell? ⟨B8, 1, none⟩ = some (.int .i64 en.2) := by rw [cell_of_row _ _ _ _ _ _ HX8.out]; rfl
   have HRe := Lib.hid (show w8.rangeAt B8 0 [.string en.1, .int .i64 en.2] from fun m v hm => by
    have hm2 : m = 0 ∨ m = 1 := by have := (List.getElem?_eq_some_iff.1 hm).1; simp at this; omega
    rcases hm2 with rfl | rfl
    ·rw [← Option.some.inj hm]; exact x0
    ·rw [← Option.some.inj hm]; exact x1)
   clear x0 x1
   go_wp2_with (first
    | (refine wpList_load_mid rfl 46 (.tmp 20) rfl B8 0 rfl _ _ HRe.out Tryz.underlying46 rfl sizeEn ?_)
    | (at_builtin; go_loud (refine wpList_append_lies _ rfl (.tmp 19) (.tmp 22) 23 rfl w2.heap.size 46 i0 _ 2 24 Tryz.underlying23 hi0 hz0 hz1 hz2 rfl (by decide) _ _ _ rfl (owns_to HO8.out ((Below.refl _ _).alloc (Nat.le_refl _) _)) ⟨w8.heap.size, 0, none⟩ 1 1 (enC en) rfl rfl (World.news_of_block (heap_alloc_new _ _)) (enC_one _) (by decide) (by unfold maxLen; omega) (by omega) (HB8.out.alloc HB8.out.size _).size _ rfl ?_; intro g1 cap1 w9 hown hgrow hat hlt1; have HO9 := Lib.hid hown; have HB9 := Lib.hid ((HB8.out.alloc HB8.out.size _).grown hgrow (HB8.out.alloc HB8.out.size _).size (fun k e => (HO8.out.lt k e).1)); clear hown hgrow hat hlt1)))
   go_roundw
   case rel => exact ⟨j + 1, by omega, by simp, Lib.hid (by rw [HTk.out, cellsC_app, cellsC_one]; exact HO9.out), HB9⟩
   case measure => simp [intOf]; omega
  ·obtain rfl : j = T.length := by omega
   rw [List.take_length] at HO
   go_wp2_with fail
   go_ret
   exact ⟨_, T, rfl, HS.out, owns_low HO.out HB2.out.size, HB2.out.trans (HB.out.mono HB2.out.size)⟩
def sumT (M : List V.Nd) (T : List En) : Int := (T.map fun e => (V.nvAt M (V.overI M e.2)).blocks).foldl (fun s x => N.cutZ (s + x)) 0
theorem sumT_snoc (M : List V.Nd) (T : List En) (e : En) : sumT M (T ++ [e]) = N.cutZ (sumT M T + (V.nvAt M (V.overI M e.2)).blocks) := by
 unfold sumT
 rw [List.map_append, List.foldl_append]
 rfl
theorem sumT_bd (M : List V.Nd) (T : List En) : I64 (sumT M T) := by
 rcases List.eq_nil_or_concat T with rfl | ⟨T', e, rfl⟩
 ·exact ⟨(by decide : (-9223372036854775808 : Int) ≤ 0), (by decide : (0 : Int) ≤ 9223372036854775807)⟩
 ·rw [List.concat_eq_append, sumT_snoc]; exact N.cutZ_bd _
theorem add2_any (x y : Int) (g : Nat) (w : World) (h0 : w.cell? ⟨g, 0, none⟩ = some (.int .i64 x)) (h1 : w.cell? ⟨g, 1, none⟩ = some (.int .i64 y)) (hx : I64 x) (hy : I64 y) :
  Calls Tryz.prog 25 #[.slice (some ⟨g, 0, none⟩) 2 2] w fun e w' => e = .returned (.int .i64 (N.cutZ (x + y))) ∧ w = w' := by
 have h := N.add_some g 0 2 2 [x, y] w (by simp) (by simp) (fun i hi => by
  have : i = 0 ∨ i = 1 := by simp at hi; omega
  rcases this with rfl | rfl
  ·exact h0
  ·exact h1) (fun i => by
  match i with
  | 0 => exact hx
  | 1 => exact hy
  | n + 2 => rw [show [x, y].getD (n + 2) 0 = 0 from rfl]; omega)
 refine h.mono ?_
 rintro e w' ⟨rfl, rfl⟩
 refine ⟨?_, rfl⟩
 have e1 : N.addAll [x, y] = N.cutZ (x + y) := by
  obtain ⟨hx0, hx1⟩ := hx
  show N.cutZ (N.cutZ (0 + x) + y) = _
  have : N.cutZ (0 + x) = x := by unfold N.cutZ; rw [if_neg (by omega), if_neg (by omega)]; omega
  rw [this]
 rw [show [x, y].take 2 = [x, y] from rfl, e1]
theorem unitsI_any (b : Int) (w : World) (hb : I64 b) :
  Calls Tryz.prog 26 #[.int .i64 b] w fun e w' => e = .returned (.int .i64 (N.ceilZ b 2)) ∧ w = w' := by
 obtain ⟨h0, h1⟩ := hb
 go_enter Tryz.func26, Tryz.ntmps26
 go_wp2_with (go_at_call 48; refine (N.ceil_any _ _ _ h0 h1 (by omega) (by omega)).mono ?_; rintro e w' ⟨rfl, rfl⟩)
 go_ret
 exact ⟨rfl, rfl⟩
def SumRel (M : List V.Nd) (T : List En) (w2 : World) (v5 v12 : Value) (wr : World) : Prop :=
 ∃ j : Nat, j ≤ T.length ∧ v12 = .int .i64 (j : Int) ∧ v5 = .int .i64 (sumT M (T.take j)) ∧ Hid (Below w2.heap.size w2 wr)
theorem ptotal_any {M : List V.Nd} {p : Nat} (l : List En) (a : Option Addr) (cap : Nat) (v0 w : World) (hf : V.Has v0 p M w) (hG : GoodI M) (H : EntL w a l) (hl : l.length ≤ 1000) :
  Calls Tryz.prog 11 #[.pointer (some ⟨p, 0, none⟩), .slice a l.length cap] w fun e w' => e = .returned (.int .i64 (N.ceilZ (blocksI M l) 2)) ∧ Below w.heap.size w w' := by
 have HIt := Lib.hid (fun (W : World) (hb : Below w.heap.size w W) => items_any l a cap v0 W (hf.keep hb) hG (H.keep hb) (by omega))
 have HV := Lib.hid hG.val
 have hTl := there_len M l
 have HBl := Lib.hid (show blocksI M l = sumT M (thereL M l) from rfl)
 clear hf hG H
 go_enter Tryz.func11, Tryz.ntmps11
 go_wp2_with fail
 refine (HIt.out _ (Below.refl _ _)).mono ?_
 rintro e w2 ⟨tv, rfl, hot, hb2⟩
 have HOt := Lib.hid hot
 have HB2 := Lib.hid hb2
 obtain ⟨ta, tc, htv⟩ := owns_form hot
 subst htv
 clear hot hb2 HIt
 generalize thereL M l = T at HOt HBl hTl ⊢
 go_wp2_with fail
 go_loopw [5, 12] (SumRel M T w2) (fun _ v _ => T.length - (intOf v).toNat)
 case atStart => exact ⟨0, Nat.zero_le _, rfl, rfl, Lib.hid (Below.refl _ _)⟩
 case round =>
  obtain ⟨j, hj, rfl, rfl, HB⟩ := hrel
  have HSb := Lib.hid (sumT_bd M (T.take j))
  by_cases hlt : j < T.length
  ·obtain ⟨en, hen⟩ : ∃ en, T[j]? = some en := ⟨_, List.getElem?_eq_getElem hlt⟩
   obtain ⟨g, cg, hv, _, _⟩ := owns_some HOt.out (show 0 < T.length by omega)
   simp only [Value.slice.injEq] at hv
   obtain ⟨rfl, _, rfl⟩ := hv
   have HRg := Lib.hid (item_at HOt.out HB.out hen)
   have HTk := Lib.hid (show sumT M (T.take (j + 1)) = N.cutZ (sumT M (T.take j) + (V.nvAt M (V.overI M en.2)).blocks) from by rw [take_one hen, sumT_snoc])
   have HNb := Lib.hid (HV.out (V.overI M en.2)).blk
   unfold itC itL at HRg
   generalize V.nvAt M (V.overI M en.2) = nd at HRg HTk HNb
   generalize V.overI M en.2 = oi at HRg
   generalize sumT M (T.take j) = s at HSb HTk ⊢
   clear hen
   go_upto_region 5 with (refine wpList_load_mid rfl 65 (.tmp 14) rfl g (j * 16) rfl _ _ HRg.out Tryz.underlying65 rfl sizeIt ?_)
   have HA8 := Lib.hid (show Below wr.heap.size wr (wr.alloc (.cells (itL en.1 en.2 oi nd).toArray 65)) from (Below.refl _ _).alloc (Nat.le_refl _) _)
   have HX8 := Lib.hid (heap_alloc_new wr (.cells (itL en.1 en.2 oi nd).toArray 65))
   unfold itL at HA8 HX8
   generalize wr.alloc (.cells _ 65) = w8 at HA8 HX8 ⊢
   have HB8 := Lib.hid (HB.out.trans (HA8.out.mono HB.out.size))
   generalize wr.heap.size = B8 at HX8 ⊢
   clear HA8 HRg HB
   have x10 : w8.cell? ⟨B8, 10, none⟩ = some (.int .i64 nd.blocks) := by rw [cell_of_row _ _ _ _ _ _ HX8.out]; rfl
   have HB9 := Lib.hid (HB8.out.alloc HB8.out.size (.cells #[.int .i64 s, .int .i64 nd.blocks] 2))
   go_wp2_with (go_at_call 25; refine (add2_any s nd.blocks _ _ (World.news_of_block (heap_alloc_new _ _) 0 _ rfl) (World.news_of_block (heap_alloc_new _ _) 1 _ rfl) HSb.out HNb.out).mono ?_; rintro e w9 ⟨rfl, rfl⟩)
   go_roundw
   case rel => exact ⟨j + 1, by omega, by simp, by rw [HTk.out], HB9⟩
   case measure => simp [intOf]; omega
  ·obtain rfl : j = T.length := by omega
   rw [List.take_length] at HSb ⊢
   go_wp2_with fail
   refine (unitsI_any _ _ HSb.out).mono ?_
   rintro e w9 ⟨rfl, rfl⟩
   go_wp2_with fail
   go_ret
   exact ⟨ret_int (by rw [HBl.out]), HB2.out.trans (HB.out.mono HB2.out.size)⟩
end Go.Proofs.YtfhagjnlliafiaaGreatDoor.I
namespace Go.Proofs.YtfhagjnlliafiaaGreatDoor.I
open Go.Proofs.YtfhagjnlliafiaaGreatDoor.B
open Go.RowKit
def bareNv (n : P.Nv) : P.Nv := { n with links := 0 }
def nodeC (n : P.Nv) : List Value := [.int .i64 n.dev, .int .i64 n.ino, .int .i64 n.kind, .int .i64 n.mode, .int .i64 n.uid, .int .i64 n.gid, .int .i64 n.size, .int .i64 n.blocks, .int .i64 n.links, .int .i64 n.ta, .int .i64 n.tb, .int .i64 n.tc, .string n.target]
theorem nodeC_one (n : P.Nv) : (nodeC n).toArray.all (·.oneCell') = true := by simp [nodeC, Value.oneCell']
theorem over_at {M : List V.Nd} (R : OvM M) {i : Int} (h : 0 ≤ i ∧ i < (M.length : Int)) : ∃ (j : Nat) (x : V.Nd), V.overI M i = (j : Int) ∧ M[j]? = some x ∧ V.nvAt M (V.overI M i) = V.nvOf x := by
 have h1 := (there_iff (V.overI M i)).1 (by rw [over_er R i]; exact (there_iff i).2 h)
 obtain ⟨j, hj⟩ := Int.eq_ofNat_of_zero_le h1.1
 have hjl : j < M.length := by omega
 refine ⟨j, M[j], hj, List.getElem?_eq_getElem hjl, ?_⟩
 rw [hj]
 unfold V.nvAt V.atM
 rw [if_pos ⟨Int.natCast_nonneg j, by omega⟩, Int.toNat_natCast, List.getElem?_eq_getElem hjl]
theorem rclock_any (h : Hw) (n : P.Nv) (w : World) :
  Calls Tryz.prog 22 #[hwV h, P.nodeV n] w fun e w' => e = .returned (.int .i64 (clkI n h.clock)) ∧ Below w.heap.size w w' := by
 unfold hwV P.nodeV
 obtain ⟨c, hc⟩ : ∃ c, h.clock = c := ⟨_, rfl⟩
 rw [hc]
 clear hc
 obtain ⟨t, ht⟩ : ∃ t, clkI n c = t := ⟨_, rfl⟩
 rw [ht]
 rcases (show c = 0 ∨ c = 2 ∨ (c ≠ 0 ∧ c ≠ 2) by omega) with rfl | rfl | ⟨q0, q2⟩
 ·have HT := Lib.hid (show n.ta = t from by rw [← ht]; rfl)
  clear ht
  go_enter Tryz.func22, Tryz.ntmps22
  go_wp2
  go_ret
  exact ⟨ret_int HT.out, by first | exact below_a3 _ _ _ _ | exact below_a2 _ _ _⟩
 ·have HT := Lib.hid (show n.tc = t from by rw [← ht]; rfl)
  clear ht
  go_enter Tryz.func22, Tryz.ntmps22
  go_wp2
  go_ret
  exact ⟨ret_int HT.out, by first | exact below_a3 _ _ _ _ | exact below_a2 _ _ _⟩
 ·have HT := Lib.hid (show n.tb = t from by rw [← ht]; unfold clkI; rw [if_neg q0, if_neg q2])
  have e0 : (c == 0) = false := beq_eq_false_iff_ne.2 q0
  have e2 : (c == 2) = false := beq_eq_false_iff_ne.2 q2
  clear ht q0 q2
  go_enter Tryz.func22, Tryz.ntmps22
  go_wp2
  go_ret
  exact ⟨ret_int HT.out, by first | exact below_a3 _ _ _ _ | exact below_a2 _ _ _⟩
def RefRel (M : List V.Nd) (l : List En) (c : Int) (w1 : World) (v7 v8 v9 : Value) (wr : World) : Prop :=
 ∃ k : Nat, k ≤ l.length ∧ v9 = .int .i64 (k : Int) ∧ Hid (wr.ownsRow w1.heap.size 46 2 v7 (thereL M (l.take k)).length (cellsC enC (thereL M (l.take k)))) ∧ Hid (wr.ownsRow w1.heap.size 70 4 v8 (thereL M (l.take k)).length (cellsC O.kyL ((thereL M (l.take k)).map (keyI M c)))) ∧ Hid (Below w1.heap.size w1 wr)
def OutLRel (T : List En) (p : List Nat) (w4 : World) (v12 v13 : Value) (wr : World) : Prop :=
 ∃ j : Nat, j ≤ p.length ∧ v13 = .int .i64 (j : Int) ∧ Hid (wr.ownsRow w4.heap.size 46 2 v12 j (cellsC enC (pickL T (p.take j)))) ∧ Hid (Below w4.heap.size w4 wr)
theorem kyL_one (k : O.Ky) : ∀ u ∈ O.kyL k, u.oneCell' = true := fun u hu => by
 simp only [O.kyL, List.mem_cons, List.not_mem_nil, or_false] at hu
 rcases hu with rfl | rfl | rfl | rfl <;> rfl
theorem sizeFs : (Tryz.prog.info? 36).map (·.size) = some 6 := by kernel_rfl
theorem ent_at {T : List En} {w w' : World} {b g fc : Nat} (h : w.ownsRow b 46 2 (.slice (some ⟨g, 0, none⟩) T.length fc) T.length (cellsC enC T)) (hb : Below w.heap.size w w') {i : Nat} {en : En} (hen : T[i]? = some en) : w'.rangeAt g (i * 2) [.string en.1, .int .i64 en.2] := by
 obtain ⟨a', c', e1, r1, _, _, _⟩ := RowL.of_owns enC_len (owns_to h hb)
 simp only [Value.slice.injEq] at e1
 obtain ⟨rfl, _, _⟩ := e1
 obtain ⟨g', o', e2, _, r2⟩ := r1.at_ hen
 simp only [Option.some.injEq, Addr.mk.injEq] at e2
 obtain ⟨rfl, rfl, _⟩ := e2
 rwa [Nat.zero_add] at r2
theorem rsorted_any {M : List V.Nd} {L : List V.It} {r : V.Rv} (h : Hw) (l out : List En) (a : Option Addr) (cap : Nat) (w : World) (HR : V.Rs M L r w) (R : V.Rel M L) (hG : GoodI M) (hL : L.length ≤ 1000000) (H : EntL w a l) (hl : l.length ≤ 1000) (hz : ∀ e ∈ l, e.1.size ≤ 60000) (hS : SortedI M h.order h.rev h.dirs h.clock l out) :
  Calls Tryz.prog 10 #[V.rvV r, .slice a l.length cap, hwV h] w fun e w' => ∃ v, e = .returned v ∧ w'.ownsRow w.heap.size 46 2 v out.length (cellsC enC out) ∧ Below w.heap.size w w' := by
 obtain ⟨i0, hi0, hz0, hz1, hz2⟩ := info_parts infoEn
 obtain ⟨j0, hj0, hy0, hy1, hy2⟩ := info_parts infoKy
 obtain ⟨gn, cn, al, cl, gc, cc, gd, cd, ga, ca, af, cf, hr⟩ := HR.at6 hG.pos
 subst hr
 have HHs := Lib.hid (fun (i : Int) (W : World) (hb : Below w.heap.size w W) => V.refHas_any M L _ i W (HR.keep hb))
 have HOv := Lib.hid (fun (i : Int) (W : World) (hb : Below w.heap.size w W) => V.rover_any M L _ i W (HR.keep hb) R hG.pos (by have := hG.few; omega) hL)
 have HNd := Lib.hid (show ∀ (W : World), Below w.heap.size w W → ∀ (j : Nat) (x : V.Nd), M[j]? = some x → W.rangeAt gn (j * 13) (nodeC (bareNv (V.nvOf x))) from fun W hb j x hx k u hu => (HR.keep hb).node_cell hx (by have := (List.getElem?_eq_some_iff.1 hu).1; exact this) hu)
 have HE := Lib.hid (fun (W : World) (hb : Below w.heap.size w W) => H.keep hb)
 have HAt := Lib.hid (fun (i : Int) (h : 0 ≤ i ∧ i < (M.length : Int)) => over_at hG.ov h)
 have HKz := Lib.hid (show ∀ c ∈ keysI M h.clock l, c.name.size ≤ 60000 from fun c hc => by
  obtain ⟨e, he, rfl⟩ := List.mem_map.1 hc
  exact hz e (there_mem he).1)
 have hTl := there_len M l
 have HClk := Lib.hid (fun (n : P.Nv) (W : World) => rclock_any h n W)
 have HS := Lib.hid hS
 have hMl := hG.few
 unfold P.nodeV at HClk
 clear HR R hG H hz hS hL
 obtain ⟨o, ho⟩ : ∃ o, h.order = o := ⟨_, rfl⟩
 rw [ho] at HS
 unfold V.rvV at HHs HOv ⊢
 unfold hwV at HClk ⊢
 rw [ho] at HClk ⊢
 clear ho
 go_enter Tryz.func10, Tryz.ntmps10
 go_upto_region 3 with fail
 obtain ⟨B0, hB0⟩ : ∃ B0, w.heap.size = B0 := ⟨_, rfl⟩
 obtain ⟨w1, hw1⟩ : ∃ w1, (w.alloc (.cells #[.slice (some ⟨gn, 0, none⟩) M.length cn, .slice al L.length cl, .slice (some ⟨gc, 0, none⟩) M.length cc, .slice (some ⟨gd, 0, none⟩) M.length cd, .slice (some ⟨ga, 0, none⟩) M.length ca, .slice af (V.devL M 0).length cf] 36)).alloc (.cells #[.int .i64 h.form, .int .i64 h.most, .int .i64 o, .bool h.rev, .bool h.dirs, .int .i64 h.clock, .int .i64 h.quote, .bool h.mark, .bool h.inode, .bool h.blocks, .int .i64 h.style, .string h.own, .int .i64 h.now, .int .i64 h.offset] 25) = w1 := ⟨_, rfl⟩
 have HB1 := Lib.hid (show Below w.heap.size w w1 from by rw [← hw1]; exact ((Below.refl _ _).alloc (Nat.le_refl _) _).alloc (by simp) _)
 have HX1 := Lib.hid (show w1.heap[B0]? = some (.cells #[.slice (some ⟨gn, 0, none⟩) M.length cn, .slice al L.length cl, .slice (some ⟨gc, 0, none⟩) M.length cc, .slice (some ⟨gd, 0, none⟩) M.length cd, .slice (some ⟨ga, 0, none⟩) M.length ca, .slice af (V.devL M 0).length cf] 36) ∧ w1.heap[B0 + 1]? = some (.cells #[.int .i64 h.form, .int .i64 h.most, .int .i64 o, .bool h.rev, .bool h.dirs, .int .i64 h.clock, .int .i64 h.quote, .bool h.mark, .bool h.inode, .bool h.blocks, .int .i64 h.style, .string h.own, .int .i64 h.now, .int .i64 h.offset] 25) from by
  rw [← hw1, ← hB0]
  refine ⟨(heap_alloc_old _ _ (by simp)).trans (heap_alloc_new _ _), ?_⟩
  have e : w.heap.size + 1 = (w.alloc (.cells #[.slice (some ⟨gn, 0, none⟩) M.length cn, .slice al L.length cl, .slice (some ⟨gc, 0, none⟩) M.length cc, .slice (some ⟨gd, 0, none⟩) M.length cd, .slice (some ⟨ga, 0, none⟩) M.length ca, .slice af (V.devL M 0).length cf] 36)).heap.size := by simp
  rw [e]
  exact heap_alloc_new _ _)
 rw [hw1, hB0]
 clear hw1
 obtain ⟨B1, hB1⟩ : ∃ B1, B0 + 1 = B1 := ⟨_, rfl⟩
 rw [hB1] at HX1 ⊢
 have HXf := Lib.hid (show ∀ W, Below w1.heap.size w1 W → W.heap[B0]? = some (.cells #[.slice (some ⟨gn, 0, none⟩) M.length cn, .slice al L.length cl, .slice (some ⟨gc, 0, none⟩) M.length cc, .slice (some ⟨gd, 0, none⟩) M.length cd, .slice (some ⟨ga, 0, none⟩) M.length ca, .slice af (V.devL M 0).length cf] 36) from fun W hb => (hb.block _ (heap_lt HX1.out.1)).trans HX1.out.1)
 have HXh := Lib.hid (show ∀ W, Below w1.heap.size w1 W → W.heap[B1]? = some (.cells #[.int .i64 h.form, .int .i64 h.most, .int .i64 o, .bool h.rev, .bool h.dirs, .int .i64 h.clock, .int .i64 h.quote, .bool h.mark, .bool h.inode, .bool h.blocks, .int .i64 h.style, .string h.own, .int .i64 h.now, .int .i64 h.offset] 25) from fun W hb => (hb.block _ (heap_lt HX1.out.2)).trans HX1.out.2)
 clear hB1 HX1
 go_wp2_with fail
 go_loopw [7, 8, 9] (RefRel M l h.clock w1) (fun _ _ v _ => l.length - (intOf v).toNat)
 case atStart => exact ⟨0, Nat.zero_le _, rfl, Lib.hid (World.ownsRow_nil _ _ _ _), Lib.hid (World.ownsRow_nil _ _ _ _), Lib.hid (Below.refl _ _)⟩
 case round =>
  obtain ⟨k, hk, rfl, HO, HK, HBr⟩ := hrel
  have HBw := Lib.hid (HB1.out.trans (HBr.out.mono HB1.out.size))
  by_cases hlt : k < l.length
  ·obtain ⟨en, hen⟩ : ∃ en, l[k]? = some en := ⟨_, List.getElem?_eq_getElem hlt⟩
   obtain ⟨g, og, ha, _, _⟩ := (HE.out _ HBw.out).at_ hen
   subst ha
   have HRg := Lib.hid (show ∀ W, Below wr.heap.size wr W → W.cell? ⟨g, og + k * 2, none⟩ = some (.string en.1) ∧ W.cell? ⟨g, og + k * 2 + 1, none⟩ = some (.int .i64 en.2) from fun W hb => by
    obtain ⟨g', o', e, _, r⟩ := (HE.out W (HBw.out.trans (hb.mono HBw.out.size))).at_ hen
    simp only [Option.some.injEq, Addr.mk.injEq] at e
    obtain ⟨rfl, rfl, _⟩ := e
    exact ⟨r 0 _ rfl, r 1 _ rfl⟩)
   have HEn := Lib.hid hen
   clear hen
   have hTk := there_take M l k
   have d0 : decide ((k : Int) < (l.length : Int)) = true := decide_eq_true (by omega)
   go_upto_region 6 with fail
   by_cases hth : 0 ≤ en.2 ∧ en.2 < (M.length : Int)
   ·have dth : decide (0 ≤ en.2 ∧ en.2 < (M.length : Int)) = true := decide_eq_true hth
    have HTh := Lib.hid hth
    clear hth
    refine B.Till.region (z := 1000) (S := fun w' => Below wr.heap.size wr w') (by kernel_rfl) ((Below.refl _ _).drew) (fun hHeld => ?_)
    refine B.Till.takeA (i := 0) (oi := ⟨some 20, .load 36 (.tmp 3), 36, "ref.go:31", #[], none⟩) (v := .agg #[.slice (some ⟨gn, 0, none⟩) M.length cn, .slice al L.length cl, .slice (some ⟨gc, 0, none⟩) M.length cc, .slice (some ⟨gd, 0, none⟩) M.length cd, .slice (some ⟨ga, 0, none⟩) M.length ca, .slice af (V.devL M 0).length cf]) rfl (by kernel_rfl) (by kernel_rfl) (by kernel_rfl) (by kernel_rfl) (fun _ _ _ h => h) (yieldsIf_load_mid (by rfl) 36 (.tmp 3) rfl B0 0 rfl [.slice (some ⟨gn, 0, none⟩) M.length cn, .slice al L.length cl, .slice (some ⟨gc, 0, none⟩) M.length cc, .slice (some ⟨gd, 0, none⟩) M.length cd, .slice (some ⟨ga, 0, none⟩) M.length ca, .slice af (V.devL M 0).length cf] _ (fun w0 hS0 => range_of (HXf.out _ (HBr.out.trans (hS0.mono HBr.out.size)))) Tryz.underlying36 rfl sizeFs) (by assumption) ?_
    try simp only [u, lt, l0, ls]
    refine B.Till.tk 1 (oi := ⟨some 21, .move (.tmp 1), 23, "ref.go:31", #[], none⟩) (.slice (some ⟨g, og, none⟩) l.length cap) rfl (fun w0 hS0 => ?_) ?_
    ·go_simp
    try simp only [u, lt, l0, ls]
    refine B.Till.tk 2 (oi := ⟨some 22, .move (.tmp 9), 3, "ref.go:31", #[], none⟩) (.int .i64 (k : Int)) rfl (fun w0 hS0 => ?_) ?_
    ·go_simp
    try simp only [u, lt, l0, ls]
    refine B.Till.tk 3 (oi := ⟨some 23, .indexAddr 23 (.tmp 21) (.tmp 22), 0, "ref.go:31", #[⟨1, .data⟩, ⟨2, .data⟩], none⟩) (.pointer (some ⟨g, og + k * 2, none⟩)) rfl (fun w0 hS0 => ?_) ?_
    ·go_simp
    try simp only [u, lt, l0, ls]
    refine B.Till.tk 4 (oi := ⟨some 24, .fieldAddr 46 (.tmp 23) 1, 0, "ref.go:31", #[⟨3, .data⟩], none⟩) (.pointer (some ⟨g, og + k * 2 + 1, none⟩)) rfl (fun w0 hS0 => ?_) ?_
    ·go_simp
    try simp only [u, lt, l0, ls]
    refine B.Till.tk 5 (oi := ⟨some 25, .load 3 (.tmp 24), 3, "ref.go:31", #[⟨4, .data⟩], none⟩) (.int .i64 en.2) rfl (fun w0 hS0 => ?_) ?_
    ·have r1 := (HRg.out _ hS0).2; go_simp
    try simp only [u, lt, l0, ls]
    refine B.Till.tn 6 rfl fun K hK => ?_
    go_simp
    refine (HHs.out en.2 _ (HBw.out.trans (hHeld.mono HBw.out.size))).mono ?_
    rintro e w5 ⟨rfl, hb5⟩
    have hH5 : Below wr.heap.size wr w5 := hHeld.trans (hb5.mono hHeld.size)
    clear hb5
    rw [dth]
    go_wp2_with fail
    refine hK.out _ _ (fun _ => hH5) ?_
    clear hK K
    try simp only [u, lt, l0, ls]
    refine B.Till.tk 7 (oi := ⟨some 27, .unOp .not 4 (.tmp 26), 4, "ref.go:31", #[⟨6, .data⟩], none⟩) (.bool false) rfl (fun w0 hS0 => ?_) ?_
    ·go_simp
    try simp only [u, lt, l0, ls]
    refine B.Till.done (by kernel_rfl) ?_
    have HH5 := Lib.hid hH5
    clear hHeld hH5
    have HBw5 := Lib.hid (HBw.out.trans (HH5.out.mono HBw.out.size))
    have HB15 := Lib.hid (HBr.out.trans (HH5.out.mono HBr.out.size))
    obtain ⟨j, x, hj, hx, hnv⟩ := HAt.out en.2 HTh.out
    have hjM := (List.getElem?_eq_some_iff.1 hx).1
    obtain ⟨nb, hnb⟩ : ∃ nb, bareNv (V.nvOf x) = nb := ⟨_, rfl⟩
    have HF5 := Lib.hid (show ∀ W, Below w5.heap.size w5 W → W.heap[B0]? = some (.cells #[.slice (some ⟨gn, 0, none⟩) M.length cn, .slice al L.length cl, .slice (some ⟨gc, 0, none⟩) M.length cc, .slice (some ⟨gd, 0, none⟩) M.length cd, .slice (some ⟨ga, 0, none⟩) M.length ca, .slice af (V.devL M 0).length cf] 36) ∧ (W.cell? ⟨g, og + k * 2, none⟩ = some (.string en.1) ∧ W.cell? ⟨g, og + k * 2 + 1, none⟩ = some (.int .i64 en.2)) ∧ W.rangeAt gn (j * 13) (nodeC nb) from fun W hb => by
     refine ⟨HXf.out _ (HB15.out.trans (hb.mono HB15.out.size)), HRg.out W (HH5.out.trans (hb.mono HH5.out.size)), ?_⟩
     rw [← hnb]
     exact HNd.out W (HBw5.out.trans (hb.mono HBw5.out.size)) j x hx)
    have HXh5 := Lib.hid (HXh.out _ HB15.out)
    have HOv5 := Lib.hid (fun (W : World) (hb : Below w5.heap.size w5 W) => HOv.out en.2 W (HBw5.out.trans (hb.mono HBw5.out.size)))
    rw [hj] at HOv5
    have HKy := Lib.hid (show keyI M h.clock en = ⟨en.1, nb.size, clkI nb h.clock, nb.kind == 2⟩ from by
     unfold keyI
     rw [hnv, ← hnb]
     show (⟨en.1, (V.nvOf x).size, clkI (V.nvOf x) h.clock, decide ((V.nvOf x).kind = 2)⟩ : O.Ky) = ⟨en.1, (V.nvOf x).size, clkI (V.nvOf x) h.clock, (V.nvOf x).kind == 2⟩
     congr 1)
    have HTk := Lib.hid (show thereL M (l.take (k + 1)) = thereL M (l.take k) ++ [en] from by rw [take_one HEn.out, there_snoc, if_pos ((there_iff en.2).2 HTh.out)])
    have HO5 := Lib.hid (owns_to HO.out HH5.out)
    have HK5 := Lib.hid (owns_to HK.out HH5.out)
    have HLg := Lib.hid (show g < w1.heap.size ∧ B1 < w1.heap.size from by
     obtain ⟨g', o', e, q, _⟩ := (HE.out _ HB1.out).at_ HEn.out
     simp only [Option.some.injEq, Addr.mk.injEq] at e
     obtain ⟨rfl, _, _⟩ := e
     exact ⟨q, heap_lt (HXh.out _ (Below.refl _ _))⟩)
    clear hj hx hnv hnb HO HK HTh HEn HRg HH5 HBw HBr HOv HHs
    go_upto_region 7 with fail
    go_cut [10] from 28 to 39 (fun a10 wx => ∃ B10 : Nat, a10 = .pointer (some ⟨B10, 0, none⟩) ∧ wx.heap[B10]? = some (.cells (nodeC nb).toArray 63 (0, 0)) ∧ Below w5.heap.size w5 wx)
    case first =>
     refine B.Till.region (z := 1000) (S := fun w' => Below w5.heap.size w5 w') (by kernel_rfl) ((Below.refl _ _).drew) (fun hHeld => ?_)
     refine B.Till.tk 0 (oi := ⟨some 28, .fieldAddr 36 (.tmp 3) 0, 0, "ref.go:34", #[], none⟩) (.pointer (some ⟨B0, 0, none⟩)) rfl (fun w0 hS0 => ?_) ?_
     ·go_simp
     try simp only [u, lt, l0, ls]
     refine B.Till.tk 1 (oi := ⟨some 29, .load 31 (.tmp 28), 31, "ref.go:34", #[⟨0, .data⟩], none⟩) (.slice (some ⟨gn, 0, none⟩) M.length cn) rfl (fun w0 hS0 => ?_) ?_
     ·have c0 : w0.cell? ⟨B0, 0, none⟩ = some (.slice (some ⟨gn, 0, none⟩) M.length cn) := by rw [cell_of_row _ _ _ _ _ _ (HF5.out _ hS0).1]; rfl
      go_simp
     try simp only [u, lt, l0, ls]
     refine B.Till.takeA (i := 2) (oi := ⟨some 30, .load 36 (.tmp 3), 36, "ref.go:34", #[], none⟩) (v := .agg #[.slice (some ⟨gn, 0, none⟩) M.length cn, .slice al L.length cl, .slice (some ⟨gc, 0, none⟩) M.length cc, .slice (some ⟨gd, 0, none⟩) M.length cd, .slice (some ⟨ga, 0, none⟩) M.length ca, .slice af (V.devL M 0).length cf]) rfl (by kernel_rfl) (by kernel_rfl) (by kernel_rfl) (by kernel_rfl) (fun _ _ _ h => h) (yieldsIf_load_mid (by rfl) 36 (.tmp 3) rfl B0 0 rfl [.slice (some ⟨gn, 0, none⟩) M.length cn, .slice al L.length cl, .slice (some ⟨gc, 0, none⟩) M.length cc, .slice (some ⟨gd, 0, none⟩) M.length cd, .slice (some ⟨ga, 0, none⟩) M.length ca, .slice af (V.devL M 0).length cf] _ (fun w0 hS0 => range_of ((HF5.out _ hS0).1)) Tryz.underlying36 rfl sizeFs) (by assumption) ?_
     try simp only [u, lt, l0, ls]
     refine B.Till.tk 3 (oi := ⟨some 31, .move (.tmp 1), 23, "ref.go:34", #[], none⟩) (.slice (some ⟨g, og, none⟩) l.length cap) rfl (fun w0 hS0 => ?_) ?_
     ·go_simp
     try simp only [u, lt, l0, ls]
     refine B.Till.tk 4 (oi := ⟨some 32, .move (.tmp 9), 3, "ref.go:34", #[], none⟩) (.int .i64 (k : Int)) rfl (fun w0 hS0 => ?_) ?_
     ·go_simp
     try simp only [u, lt, l0, ls]
     refine B.Till.tk 5 (oi := ⟨some 33, .indexAddr 23 (.tmp 31) (.tmp 32), 0, "ref.go:34", #[⟨3, .data⟩, ⟨4, .data⟩], none⟩) (.pointer (some ⟨g, og + k * 2, none⟩)) rfl (fun w0 hS0 => ?_) ?_
     ·go_simp
     try simp only [u, lt, l0, ls]
     refine B.Till.tk 6 (oi := ⟨some 34, .fieldAddr 46 (.tmp 33) 1, 0, "ref.go:34", #[⟨5, .data⟩], none⟩) (.pointer (some ⟨g, og + k * 2 + 1, none⟩)) rfl (fun w0 hS0 => ?_) ?_
     ·go_simp
     try simp only [u, lt, l0, ls]
     refine B.Till.tk 7 (oi := ⟨some 35, .load 3 (.tmp 34), 3, "ref.go:34", #[⟨6, .data⟩], none⟩) (.int .i64 en.2) rfl (fun w0 hS0 => ?_) ?_
     ·have r1 := (HF5.out _ hS0).2.1.2; go_simp
     try simp only [u, lt, l0, ls]
     refine B.Till.two (i := 8) (j := 11) (by kernel_rfl) rfl rfl (fun K hK => ?_) (fun K hK => ?_)
     ·go_simp
      refine (HOv5.out _ hHeld).mono ?_
      rintro e w6 ⟨rfl, hb6⟩
      have hH6 : Below w5.heap.size w5 w6 := hHeld.trans (hb6.mono hHeld.size)
      go_wp2_with fail
      refine hK.out _ _ (fun _ => hH6) ?_
      clear hK K
      try simp only [u, lt, l0, ls]
      refine B.Till.tk 9 (oi := ⟨some 37, .indexAddr 31 (.tmp 29) (.tmp 36), 0, "ref.go:34", #[⟨1, .data⟩, ⟨8, .data⟩], none⟩) (.pointer (some ⟨gn, j * 13, none⟩)) rfl (fun w0 hS0 => ?_) ?_
      ·go_simp
      try simp only [u, lt, l0, ls]
      refine B.Till.takeA (i := 10) (oi := ⟨some 38, .load 63 (.tmp 37), 63, "ref.go:34", #[⟨9, .data⟩], none⟩) (v := .agg #[.int .i64 nb.dev, .int .i64 nb.ino, .int .i64 nb.kind, .int .i64 nb.mode, .int .i64 nb.uid, .int .i64 nb.gid, .int .i64 nb.size, .int .i64 nb.blocks, .int .i64 nb.links, .int .i64 nb.ta, .int .i64 nb.tb, .int .i64 nb.tc, .string nb.target]) rfl (by kernel_rfl) (by kernel_rfl) (by kernel_rfl) (by kernel_rfl) (fun _ _ _ h => h) (yieldsIf_load_mid (by rfl) 63 (.tmp 37) rfl gn (j * 13) rfl [.int .i64 nb.dev, .int .i64 nb.ino, .int .i64 nb.kind, .int .i64 nb.mode, .int .i64 nb.uid, .int .i64 nb.gid, .int .i64 nb.size, .int .i64 nb.blocks, .int .i64 nb.links, .int .i64 nb.ta, .int .i64 nb.tb, .int .i64 nb.tc, .string nb.target] _ (fun w0 hS0 => (HF5.out _ hS0).2.2) Tryz.underlying63 rfl sizeN) (by assumption) ?_
      try simp only [u, lt, l0, ls]
      refine B.Till.tn 11 rfl fun K hK => ?_
      go_simp
      refine hK.out _ _ (fun _ => hH6.alloc hH6.size _) ?_
      clear hK K
      try simp only [u, lt, l0, ls]
      have hH7 := hH6.alloc hH6.size (.cells #[.int .i64 0, .int .i64 0, .int .i64 0, .int .i64 0, .int .i64 0, .int .i64 0, .int .i64 0, .int .i64 0, .int .i64 0, .int .i64 0, .int .i64 0, .int .i64 0, .string ⟨#[]⟩] 63)
      refine B.Till.tn 12 rfl fun K hK => ?_
      refine step_store_own rfl 63 (.tmp 10) (.tmp 38) rfl w6.heap.size #[.int .i64 nb.dev, .int .i64 nb.ino, .int .i64 nb.kind, .int .i64 nb.mode, .int .i64 nb.uid, .int .i64 nb.gid, .int .i64 nb.size, .int .i64 nb.blocks, .int .i64 nb.links, .int .i64 nb.ta, .int .i64 nb.tb, .int .i64 nb.tc, .string nb.target] rfl rfl 63 _ (heap_alloc_new _ _) sizeN rfl (nodeC_one nb) ?_
      refine hK.out _ _ (fun _ => (below_setR hH7 hH6.size _)) ?_
      clear hK K
      try simp only [u, lt, l0, ls]
      refine B.Till.done (by kernel_rfl) ?_
      go_wp2_with fail
      go_meet
      exact ⟨w6.heap.size, rfl, setRow_heap _ _ _ _ _ _ (heap_alloc_new _ _), (below_setR hH7 hH6.size _)⟩
     ·go_simp
      refine hK.out _ _ (fun _ => hHeld.alloc hHeld.size _) ?_
      clear hK K
      try simp only [u, lt, l0, ls]
      have hH7 := hHeld.alloc hHeld.size (.cells #[.int .i64 0, .int .i64 0, .int .i64 0, .int .i64 0, .int .i64 0, .int .i64 0, .int .i64 0, .int .i64 0, .int .i64 0, .int .i64 0, .int .i64 0, .int .i64 0, .string ⟨#[]⟩] 63)
      have HX7 := heap_alloc_new w5.drew (.cells #[.int .i64 0, .int .i64 0, .int .i64 0, .int .i64 0, .int .i64 0, .int .i64 0, .int .i64 0, .int .i64 0, .int .i64 0, .int .i64 0, .int .i64 0, .int .i64 0, .string ⟨#[]⟩] 63)
      refine B.Till.tn 8 rfl fun K hK => ?_
      go_simp
      refine (HOv5.out _ hH7).mono ?_
      rintro e w6 ⟨rfl, hb6⟩
      have hH6 : Below w5.heap.size w5 w6 := hH7.trans (hb6.mono hH7.size)
      have HX6 := (hb6.block _ (heap_lt HX7)).trans HX7
      go_wp2_with fail
      refine hK.out _ _ (fun _ => hH6) ?_
      clear hK K
      try simp only [u, lt, l0, ls]
      refine B.Till.tk 9 (oi := ⟨some 37, .indexAddr 31 (.tmp 29) (.tmp 36), 0, "ref.go:34", #[⟨1, .data⟩, ⟨8, .data⟩], none⟩) (.pointer (some ⟨gn, j * 13, none⟩)) rfl (fun w0 hS0 => ?_) ?_
      ·go_simp
      try simp only [u, lt, l0, ls]
      refine B.Till.takeA (i := 10) (oi := ⟨some 38, .load 63 (.tmp 37), 63, "ref.go:34", #[⟨9, .data⟩], none⟩) (v := .agg #[.int .i64 nb.dev, .int .i64 nb.ino, .int .i64 nb.kind, .int .i64 nb.mode, .int .i64 nb.uid, .int .i64 nb.gid, .int .i64 nb.size, .int .i64 nb.blocks, .int .i64 nb.links, .int .i64 nb.ta, .int .i64 nb.tb, .int .i64 nb.tc, .string nb.target]) rfl (by kernel_rfl) (by kernel_rfl) (by kernel_rfl) (by kernel_rfl) (fun _ _ _ h => h) (yieldsIf_load_mid (by rfl) 63 (.tmp 37) rfl gn (j * 13) rfl [.int .i64 nb.dev, .int .i64 nb.ino, .int .i64 nb.kind, .int .i64 nb.mode, .int .i64 nb.uid, .int .i64 nb.gid, .int .i64 nb.size, .int .i64 nb.blocks, .int .i64 nb.links, .int .i64 nb.ta, .int .i64 nb.tb, .int .i64 nb.tc, .string nb.target] _ (fun w0 hS0 => (HF5.out _ hS0).2.2) Tryz.underlying63 rfl sizeN) (by assumption) ?_
      try simp only [u, lt, l0, ls]
      refine B.Till.tn 12 rfl fun K hK => ?_
      refine step_store_own rfl 63 (.tmp 10) (.tmp 38) rfl w5.heap.size #[.int .i64 nb.dev, .int .i64 nb.ino, .int .i64 nb.kind, .int .i64 nb.mode, .int .i64 nb.uid, .int .i64 nb.gid, .int .i64 nb.size, .int .i64 nb.blocks, .int .i64 nb.links, .int .i64 nb.ta, .int .i64 nb.tb, .int .i64 nb.tc, .string nb.target] rfl rfl 63 _ HX6 sizeN rfl (nodeC_one nb) ?_
      refine hK.out _ _ (fun _ => (below_setR hH6 (Nat.le_refl _) _)) ?_
      clear hK K
      try simp only [u, lt, l0, ls]
      refine B.Till.done (by kernel_rfl) ?_
      go_wp2_with fail
      go_meet
      exact ⟨w5.heap.size, rfl, setRow_heap _ _ _ _ _ _ HX6, (below_setR hH6 (Nat.le_refl _) _)⟩
    case rest =>
     obtain ⟨B10, rfl, hx10, hb10⟩ := hcut
     have HX10 := Lib.hid hx10
     have HB10 := Lib.hid hb10
     obtain ⟨_, ⟨r0, r1⟩, _⟩ := HF5.out _ hb10
     have HRe := Lib.hid (show wc.rangeAt g (og + k * 2) [.string en.1, .int .i64 en.2] from fun m v hm => by
      have hm2 : m = 0 ∨ m = 1 := by have := (List.getElem?_eq_some_iff.1 hm).1; simp at this; omega
      rcases hm2 with rfl | rfl
      ·rw [← Option.some.inj hm]; exact r0
      ·rw [← Option.some.inj hm]; exact r1)
     have HR0 := Lib.hid r0
     have HOc := Lib.hid (owns_to HO5.out hb10)
     have HKc := Lib.hid (owns_to HK5.out hb10)
     have HXhc := Lib.hid ((hb10.block _ (heap_lt HXh5.out)).trans HXh5.out)
     have HBc := Lib.hid (HB15.out.trans (hb10.mono HB15.out.size))
     clear hx10 hb10 HF5 HOv5 HO5 HK5 HXh5 HB15 HBw5 HB10 r0 r1
     generalize thereL M (l.take k) = T at HOc HKc HTk hTk
     obtain ⟨ka, kc, hkv⟩ := owns_form HKc.out
     subst hkv
     obtain ⟨ea, ec, hev⟩ := owns_form HOc.out
     subst hev
     have HKl := Lib.hid (show (T.map (keyI M h.clock)).length = T.length from List.length_map _)
     go_upto_region 9 with (first
      | (refine wpList_load_mid rfl 46 (.tmp 42) rfl g (og + k * 2) rfl _ _ HRe.out Tryz.underlying46 rfl sizeEn ?_)
      | (at_builtin; go_loud (refine wpList_append_lies _ rfl (.tmp 39) (.tmp 44) 23 rfl w1.heap.size 46 i0 _ 2 24 Tryz.underlying23 hi0 hz0 hz1 hz2 rfl (by decide) _ _ _ rfl (owns_to HOc.out ((Below.refl _ _).alloc (Nat.le_refl _) _)) ⟨wc.heap.size, 0, none⟩ 1 1 (enC en) rfl rfl (World.news_of_block (heap_alloc_new _ _)) (enC_one _) (by decide) (by unfold maxLen; omega) (by omega) (HBc.out.alloc HBc.out.size _).size _ rfl ?_; intro g8 cap8 w8 hown hgrow hat hlt1; have HO8 := Lib.hid hown; have HG8 := Lib.hid hgrow; clear hown hgrow hat hlt1)))
     have HA8 := Lib.hid (show Below wc.heap.size wc (wc.alloc (.cells #[.string en.1, .int .i64 en.2] 46)) from (Below.refl _ _).alloc (Nat.le_refl _) _)
     have HOa := Lib.hid (owns_to HOc.out HA8.out)
     have HKa := Lib.hid (owns_to HKc.out HA8.out)
     have HXa := Lib.hid ((HA8.out.block _ (heap_lt HX10.out)).trans HX10.out)
     have HXha := Lib.hid ((HA8.out.block _ (heap_lt HXhc.out)).trans HXhc.out)
     have HBa := Lib.hid (HBc.out.trans (HA8.out.mono HBc.out.size))
     have HR8a := Lib.hid (show (wc.alloc (.cells #[.string en.1, .int .i64 en.2] 46)).cell? ⟨g, og + k * 2, none⟩ = some (.string en.1) from (HA8.out.cell (p := ⟨g, og + k * 2, none⟩) (Nat.lt_of_lt_of_le HLg.out.1 HBc.out.size)).trans HR0.out)
     generalize wc.alloc (.cells #[.string en.1, .int .i64 en.2] 46) = wa at HG8 HOa HKa HXa HXha HBa HR8a
     have HX8 := Lib.hid ((HG8.out.block _ (heap_lt HXa.out) (ne_type HOa.out HXa.out (by decide))).trans HXa.out)
     have HXh8 := Lib.hid ((HG8.out.block _ (heap_lt HXha.out) (ne_type HOa.out HXha.out (by decide))).trans HXha.out)
     have HK8 := Lib.hid (World.ownsRow.kept HKa.out HG8.out (owns_apart HKa.out HOa.out (by decide)))
     have HB8 := Lib.hid (HBa.out.grown HG8.out HBa.out.size (fun k e => (HOa.out.lt k e).1))
     have HR8 := Lib.hid (show w8.cell? ⟨g, og + k * 2, none⟩ = some (.string en.1) from (World.cell?_of_block (HG8.out.block g (Nat.lt_of_lt_of_le HLg.out.1 HBa.out.size) (fun e => by have := (HOa.out.lt _ e.symm).1; have := HLg.out.1; omega))).trans HR8a.out)
     have HLg8 := Lib.hid (show g < w8.heap.size ∧ B1 < w8.heap.size ∧ B10 < w8.heap.size from ⟨Nat.lt_of_lt_of_le HLg.out.1 HB8.out.size, heap_lt HXh8.out, heap_lt HX8.out⟩)
     clear HA8 HOa HKa HXa HXha HBa HR8a HG8 HX10 HXhc HBc HOc HKc HRe HR0
     unfold nodeC at HX8
     obtain ⟨ct, hct⟩ : ∃ ct, clkI nb h.clock = ct := ⟨_, rfl⟩
     have HCk := Lib.hid (HClk.out nb)
     rw [hct] at HCk HKy
     obtain ⟨d, hd⟩ : ∃ d, (nb.kind == 2) = d := ⟨_, rfl⟩
     rw [hd] at HKy
     clear hct
     obtain ⟨KS, hK0⟩ : ∃ KS, T.map (keyI M h.clock) = KS := ⟨_, rfl⟩
     have HKe := Lib.hid hK0
     rw [hK0] at HK8 HKl
     clear hK0
     refine B.Till.region (z := 1000) (S := fun w' => w'.heap[B10]? = w8.heap[B10]? ∧ w'.heap[B1]? = w8.heap[B1]? ∧ w'.heap[g]? = w8.heap[g]?) (by kernel_rfl) ⟨rfl, rfl, rfl⟩ (fun hHeld => ?_)
     refine B.Till.tk 0 (oi := ⟨some 46, .move (.tmp 8), 66, "ref.go:36", #[], none⟩) (.slice ka T.length kc) rfl (fun w0 hS0 => ?_) ?_
     ·go_simp
     try simp only [u, lt, l0, ls]
     refine B.Till.tk 1 (oi := ⟨some 47, .move (.tmp 1), 23, "ref.go:36", #[], none⟩) (.slice (some ⟨g, og, none⟩) l.length cap) rfl (fun w0 hS0 => ?_) ?_
     ·go_simp
     try simp only [u, lt, l0, ls]
     refine B.Till.tk 2 (oi := ⟨some 48, .move (.tmp 9), 3, "ref.go:36", #[], none⟩) (.int .i64 (k : Int)) rfl (fun w0 hS0 => ?_) ?_
     ·go_simp
     try simp only [u, lt, l0, ls]
     refine B.Till.tk 3 (oi := ⟨some 49, .indexAddr 23 (.tmp 47) (.tmp 48), 0, "ref.go:36", #[⟨1, .data⟩, ⟨2, .data⟩], none⟩) (.pointer (some ⟨g, og + k * 2, none⟩)) rfl (fun w0 hS0 => ?_) ?_
     ·go_simp
     try simp only [u, lt, l0, ls]
     refine B.Till.tk 4 (oi := ⟨some 50, .fieldAddr 46 (.tmp 49) 0, 0, "ref.go:36", #[⟨3, .data⟩], none⟩) (.pointer (some ⟨g, og + k * 2, none⟩)) rfl (fun w0 hS0 => ?_) ?_
     ·go_simp
     try simp only [u, lt, l0, ls]
     refine B.Till.tk 5 (oi := ⟨some 51, .load 9 (.tmp 50), 9, "ref.go:36", #[⟨4, .data⟩], none⟩) (.string en.1) rfl (fun w0 hS0 => ?_) ?_
     ·have r0 : w0.cell? ⟨g, og + k * 2, none⟩ = some (.string en.1) := (World.cell?_of_block hS0.2.2).trans HR8.out
      go_simp
     try simp only [u, lt, l0, ls]
     refine B.Till.tk 6 (oi := ⟨some 52, .fieldAddr 63 (.tmp 10) 6, 0, "ref.go:36", #[], none⟩) (.pointer (some ⟨B10, 6, none⟩)) rfl (fun w0 hS0 => ?_) ?_
     ·go_simp
     try simp only [u, lt, l0, ls]
     refine B.Till.tk 7 (oi := ⟨some 53, .load 2 (.tmp 52), 2, "ref.go:36", #[⟨6, .data⟩], none⟩) (.int .i64 nb.size) rfl (fun w0 hS0 => ?_) ?_
     ·have b8 : w0.cell? ⟨B10, 6, none⟩ = some (.int .i64 nb.size) := by rw [cell_of_row _ _ _ _ _ _ (hS0.1.trans HX8.out)]; rfl
      go_simp
     try simp only [u, lt, l0, ls]
     refine B.Till.takeA (i := 8) (oi := ⟨some 54, .load 25 (.tmp 5), 25, "ref.go:36", #[], none⟩) (v := .agg #[.int .i64 h.form, .int .i64 h.most, .int .i64 o, .bool h.rev, .bool h.dirs, .int .i64 h.clock, .int .i64 h.quote, .bool h.mark, .bool h.inode, .bool h.blocks, .int .i64 h.style, .string h.own, .int .i64 h.now, .int .i64 h.offset]) rfl (by kernel_rfl) (by kernel_rfl) (by kernel_rfl) (by kernel_rfl) (fun _ _ _ h => h) (yieldsIf_load_mid (by rfl) 25 (.tmp 5) rfl B1 0 rfl [.int .i64 h.form, .int .i64 h.most, .int .i64 o, .bool h.rev, .bool h.dirs, .int .i64 h.clock, .int .i64 h.quote, .bool h.mark, .bool h.inode, .bool h.blocks, .int .i64 h.style, .string h.own, .int .i64 h.now, .int .i64 h.offset] _ (fun w0 hS0 => range_of (hS0.2.1.trans HXh8.out)) Tryz.underlying25 rfl sizeHw) (by assumption) ?_
     try simp only [u, lt, l0, ls]
     refine B.Till.takeA (i := 9) (oi := ⟨some 55, .load 63 (.tmp 10), 63, "ref.go:36", #[], none⟩) (v := .agg #[.int .i64 nb.dev, .int .i64 nb.ino, .int .i64 nb.kind, .int .i64 nb.mode, .int .i64 nb.uid, .int .i64 nb.gid, .int .i64 nb.size, .int .i64 nb.blocks, .int .i64 nb.links, .int .i64 nb.ta, .int .i64 nb.tb, .int .i64 nb.tc, .string nb.target]) rfl (by kernel_rfl) (by kernel_rfl) (by kernel_rfl) (by kernel_rfl) (fun _ _ _ h => h) (yieldsIf_load_mid (by rfl) 63 (.tmp 10) rfl B10 0 rfl [.int .i64 nb.dev, .int .i64 nb.ino, .int .i64 nb.kind, .int .i64 nb.mode, .int .i64 nb.uid, .int .i64 nb.gid, .int .i64 nb.size, .int .i64 nb.blocks, .int .i64 nb.links, .int .i64 nb.ta, .int .i64 nb.tb, .int .i64 nb.tc, .string nb.target] _ (fun w0 hS0 => range_of (hS0.1.trans HX8.out)) Tryz.underlying63 rfl sizeN) (by assumption) ?_
     try simp only [u, lt, l0, ls]
     refine B.Till.tk 11 (oi := ⟨some 57, .fieldAddr 63 (.tmp 10) 2, 0, "ref.go:36", #[], none⟩) (.pointer (some ⟨B10, 2, none⟩)) rfl (fun w0 hS0 => ?_) ?_
     ·go_simp
     try simp only [u, lt, l0, ls]
     refine B.Till.tk 12 (oi := ⟨some 58, .load 3 (.tmp 57), 3, "ref.go:36", #[⟨11, .data⟩], none⟩) (.int .i64 nb.kind) rfl (fun w0 hS0 => ?_) ?_
     ·have b8 : w0.cell? ⟨B10, 2, none⟩ = some (.int .i64 nb.kind) := by rw [cell_of_row _ _ _ _ _ _ (hS0.1.trans HX8.out)]; rfl
      go_simp
     try simp only [u, lt, l0, ls]
     refine B.Till.tk 13 (oi := ⟨some 59, .binOp .eql 3 (.tmp 58) (.const (.int .i64 2)) 3, 4, "ref.go:36", #[⟨12, .data⟩], none⟩) (.bool d) rfl (fun w0 hS0 => ?_) ?_
     ·go_simp
     try simp only [u, lt, l0, ls]
     refine B.Till.tn 10 rfl fun K hK => ?_
     go_simp
     refine (HCk.out _).mono ?_
     rintro e w9 ⟨rfl, hb9⟩
     have hb9' : Below w8.heap.size w8 w9 := ⟨hb9.os, hb9.tape, hb9.output, hb9.size, hb9.block⟩
     have hS9 : w9.heap[B10]? = w8.heap[B10]? ∧ w9.heap[B1]? = w8.heap[B1]? ∧ w9.heap[g]? = w8.heap[g]? := ⟨hb9.block _ HLg8.out.2.2, hb9.block _ HLg8.out.2.1, hb9.block _ HLg8.out.1⟩
     have HL9 := Lib.hid hb9'.size
     have HO9 := Lib.hid (owns_to HO8.out hb9')
     have HK9 := Lib.hid (owns_to HK8.out hb9')
     have HB9 := Lib.hid (HB8.out.trans (hb9'.mono HB8.out.size))
     clear hb9 hb9'
     go_wp2_with fail
     refine hK.out _ _ (fun _ => hS9) ?_
     clear hK K
     try simp only [u, lt, l0, ls]
     refine B.Till.tk 14 (oi := ⟨some 60, .build 70 #[(0, .tmp 51), (1, .tmp 53), (2, .tmp 56), (3, .tmp 59)], 70, "ref.go:36", #[⟨5, .data⟩, ⟨7, .data⟩, ⟨10, .data⟩, ⟨13, .data⟩], none⟩) (.agg #[.string en.1, .int .i64 nb.size, .int .i64 ct, .bool d]) rfl (fun w0 hS0 => ?_) ?_
     ·go_simp
     try simp only [u, lt, l0, ls]
     refine B.Till.tn 15 rfl fun K hK => ?_
     go_simp
     have hS10 : (w9.alloc (.cells #[.string en.1, .int .i64 nb.size, .int .i64 ct, .bool d] 70)).heap[B10]? = w8.heap[B10]? ∧ (w9.alloc (.cells #[.string en.1, .int .i64 nb.size, .int .i64 ct, .bool d] 70)).heap[B1]? = w8.heap[B1]? ∧ (w9.alloc (.cells #[.string en.1, .int .i64 nb.size, .int .i64 ct, .bool d] 70)).heap[g]? = w8.heap[g]? := ⟨(heap_alloc_old _ _ (Nat.lt_of_lt_of_le HLg8.out.2.2 HL9.out)).trans hS9.1, (heap_alloc_old _ _ (Nat.lt_of_lt_of_le HLg8.out.2.1 HL9.out)).trans hS9.2.1, (heap_alloc_old _ _ (Nat.lt_of_lt_of_le HLg8.out.1 HL9.out)).trans hS9.2.2⟩
     have HAl := Lib.hid (show Below w9.heap.size w9 (w9.alloc (.cells #[.string en.1, .int .i64 nb.size, .int .i64 ct, .bool d] 70)) from (Below.refl _ _).alloc (Nat.le_refl _) _)
     refine hK.out _ _ (fun _ => hS10) ?_
     clear hK K
     try simp only [u, lt, l0, ls]
     refine B.Till.tn 16 rfl fun K hK => ?_
     refine step_append_lies _ rfl (.tmp 46) (.tmp 61) 66 rfl w1.heap.size 70 j0 _ 4 40 Tryz.underlying66 hj0 hy0 hy1 hy2 rfl (by decide) (.slice ka T.length kc) T.length (cellsC O.kyL KS) (by simp [Act.eval]) (owns_to HK9.out HAl.out) ⟨w9.heap.size, 0, none⟩ 1 1 (O.kyL ⟨en.1, nb.size, ct, d⟩) (by simp [Act.eval]) rfl (World.news_of_block (heap_alloc_new _ _)) (kyL_one _) (by decide) (by unfold maxLen; omega) (by omega) (HB9.out.alloc HB9.out.size _).size _ rfl ?_
     intro g11 cap11 w11 hown hgrow hat hlt1
     have hS11 : w11.heap[B10]? = w8.heap[B10]? ∧ w11.heap[B1]? = w8.heap[B1]? ∧ w11.heap[g]? = w8.heap[g]? := ⟨(hgrow.block _ (Nat.lt_of_lt_of_le (Nat.lt_of_lt_of_le HLg8.out.2.2 HL9.out) HAl.out.size) (ne_type (owns_to HK9.out HAl.out) (hS10.1.trans HX8.out) (by decide))).trans hS10.1, (hgrow.block _ (Nat.lt_of_lt_of_le (Nat.lt_of_lt_of_le HLg8.out.2.1 HL9.out) HAl.out.size) (ne_type (owns_to HK9.out HAl.out) (hS10.2.1.trans HXh8.out) (by decide))).trans hS10.2.1, (hgrow.block _ (Nat.lt_of_lt_of_le (Nat.lt_of_lt_of_le HLg8.out.1 HL9.out) HAl.out.size) (fun e => by have q := (HK9.out.lt _ e.symm).1; have q2 := HLg.out.1; omega)).trans hS10.2.2⟩
     have HK11 := Lib.hid hown
     have HO10 := Lib.hid (World.ownsRow.kept (owns_to HO9.out HAl.out) hgrow (owns_apart (owns_to HO9.out HAl.out) (owns_to HK9.out HAl.out) (by decide)))
     have HB11 := Lib.hid ((HB9.out.alloc HB9.out.size _).grown hgrow (HB9.out.alloc HB9.out.size _).size (fun k e => (HK9.out.lt k e).1))
     clear hown hgrow hat hlt1
     refine hK.out _ _ (fun _ => hS11) ?_
     clear hK K
     try simp only [u, lt, l0, ls]
     refine B.Till.tk 17 (oi := ⟨some 8, .assign (.tmp 62), 66, "ref.go:36", #[⟨16, .data⟩, ⟨16, .chain⟩, ⟨0, .phase⟩, ⟨1, .phase⟩, ⟨2, .phase⟩, ⟨3, .phase⟩, ⟨4, .phase⟩, ⟨5, .phase⟩, ⟨6, .phase⟩, ⟨7, .phase⟩, ⟨8, .phase⟩, ⟨9, .phase⟩, ⟨10, .phase⟩, ⟨11, .phase⟩, ⟨12, .phase⟩, ⟨13, .phase⟩, ⟨14, .phase⟩, ⟨15, .phase⟩, ⟨16, .phase⟩], none⟩) (.slice (some ⟨g11, 0, none⟩) (T.length + 1) cap11) rfl (fun w0 hS0 => ?_) ?_
     ·go_simp
     try simp only [u, lt, l0, ls]
     refine B.Till.done (by kernel_rfl) ?_
     go_wp2_with fail
     go_roundw
     case rel => exact ⟨k + 1, by omega, by simp, Lib.hid (by rw [HTk.out, cellsC_app, cellsC_one, List.length_append]; exact HO10.out), Lib.hid (by rw [HTk.out, List.map_append, cellsC_app, HKe.out, List.map_singleton, cellsC_one, HKy.out, List.length_append]; exact HK11.out), HB11⟩
     case measure => simp [intOf]; omega
   ·have dth : decide (0 ≤ en.2 ∧ en.2 < (M.length : Int)) = false := decide_eq_false hth
    have HTk := Lib.hid (show thereL M (l.take (k + 1)) = thereL M (l.take k) from by rw [take_one HEn.out, there_snoc, if_neg (fun q => hth ((there_iff en.2).1 q))])
    clear hth
    refine B.Till.region (z := 1000) (S := fun w' => Below wr.heap.size wr w') (by kernel_rfl) ((Below.refl _ _).drew) (fun hHeld => ?_)
    refine B.Till.takeA (i := 0) (oi := ⟨some 20, .load 36 (.tmp 3), 36, "ref.go:31", #[], none⟩) (v := .agg #[.slice (some ⟨gn, 0, none⟩) M.length cn, .slice al L.length cl, .slice (some ⟨gc, 0, none⟩) M.length cc, .slice (some ⟨gd, 0, none⟩) M.length cd, .slice (some ⟨ga, 0, none⟩) M.length ca, .slice af (V.devL M 0).length cf]) rfl (by kernel_rfl) (by kernel_rfl) (by kernel_rfl) (by kernel_rfl) (fun _ _ _ h => h) (yieldsIf_load_mid (by rfl) 36 (.tmp 3) rfl B0 0 rfl [.slice (some ⟨gn, 0, none⟩) M.length cn, .slice al L.length cl, .slice (some ⟨gc, 0, none⟩) M.length cc, .slice (some ⟨gd, 0, none⟩) M.length cd, .slice (some ⟨ga, 0, none⟩) M.length ca, .slice af (V.devL M 0).length cf] _ (fun w0 hS0 => range_of (HXf.out _ (HBr.out.trans (hS0.mono HBr.out.size)))) Tryz.underlying36 rfl sizeFs) (by assumption) ?_
    try simp only [u, lt, l0, ls]
    refine B.Till.tk 1 (oi := ⟨some 21, .move (.tmp 1), 23, "ref.go:31", #[], none⟩) (.slice (some ⟨g, og, none⟩) l.length cap) rfl (fun w0 hS0 => ?_) ?_
    ·go_simp
    try simp only [u, lt, l0, ls]
    refine B.Till.tk 2 (oi := ⟨some 22, .move (.tmp 9), 3, "ref.go:31", #[], none⟩) (.int .i64 (k : Int)) rfl (fun w0 hS0 => ?_) ?_
    ·go_simp
    try simp only [u, lt, l0, ls]
    refine B.Till.tk 3 (oi := ⟨some 23, .indexAddr 23 (.tmp 21) (.tmp 22), 0, "ref.go:31", #[⟨1, .data⟩, ⟨2, .data⟩], none⟩) (.pointer (some ⟨g, og + k * 2, none⟩)) rfl (fun w0 hS0 => ?_) ?_
    ·go_simp
    try simp only [u, lt, l0, ls]
    refine B.Till.tk 4 (oi := ⟨some 24, .fieldAddr 46 (.tmp 23) 1, 0, "ref.go:31", #[⟨3, .data⟩], none⟩) (.pointer (some ⟨g, og + k * 2 + 1, none⟩)) rfl (fun w0 hS0 => ?_) ?_
    ·go_simp
    try simp only [u, lt, l0, ls]
    refine B.Till.tk 5 (oi := ⟨some 25, .load 3 (.tmp 24), 3, "ref.go:31", #[⟨4, .data⟩], none⟩) (.int .i64 en.2) rfl (fun w0 hS0 => ?_) ?_
    ·have r1 := (HRg.out _ hS0).2; go_simp
    try simp only [u, lt, l0, ls]
    refine B.Till.tn 6 rfl fun K hK => ?_
    go_simp
    refine (HHs.out en.2 _ (HBw.out.trans (hHeld.mono HBw.out.size))).mono ?_
    rintro e w5 ⟨rfl, hb5⟩
    have hH5 : Below wr.heap.size wr w5 := hHeld.trans (hb5.mono hHeld.size)
    clear hb5
    rw [dth]
    go_wp2_with fail
    refine hK.out _ _ (fun _ => hH5) ?_
    clear hK K
    try simp only [u, lt, l0, ls]
    refine B.Till.tk 7 (oi := ⟨some 27, .unOp .not 4 (.tmp 26), 4, "ref.go:31", #[⟨6, .data⟩], none⟩) (.bool true) rfl (fun w0 hS0 => ?_) ?_
    ·go_simp
    try simp only [u, lt, l0, ls]
    refine B.Till.done (by kernel_rfl) ?_
    go_wp2_with fail
    go_roundw
    case rel => exact ⟨k + 1, by omega, by simp, Lib.hid (by rw [HTk.out]; exact owns_to HO.out hH5), Lib.hid (by rw [HTk.out]; exact owns_to HK.out hH5), Lib.hid (HBr.out.trans (hH5.mono HBr.out.size))⟩
    case measure => simp [intOf]; omega
  ·obtain rfl : k = l.length := by omega
   obtain ⟨wk, rfl⟩ : ∃ wk, wk = wr := ⟨_, rfl⟩
   rw [List.take_length] at HO HK
   have HKs := Lib.hid (show (thereL M l).map (keyI M h.clock) = keysI M h.clock l from rfl)
   rw [HKs.out] at HK
   have HXk := Lib.hid (HXh.out _ HBr.out)
   have c2 : wk.cell? ⟨B1, 2, none⟩ = some (.int .i64 o) := by rw [cell_of_row _ _ _ _ _ _ HXk.out]; rfl
   have c3 : wk.cell? ⟨B1, 3, none⟩ = some (.bool h.rev) := by rw [cell_of_row _ _ _ _ _ _ HXk.out]; rfl
   have c4 : wk.cell? ⟨B1, 4, none⟩ = some (.bool h.dirs) := by rw [cell_of_row _ _ _ _ _ _ HXk.out]; rfl
   obtain ⟨ka, kc, hkv⟩ := owns_form HK.out
   subst hkv
   obtain ⟨ea, ec, hev⟩ := owns_form HO.out
   subst hev
   clear HNd HE HAt HClk HOv HHs HXf HXh HXk
   have hKl : (keysI M h.clock l).length = (thereL M l).length := keys_len M h.clock l
   have HLo := Lib.hid HB1.out.size
   by_cases hno : o < 0 ∨ 4 < o
   ·have hout := HS.out.none hno
    have HOo := Lib.hid hout
    rcases hno with q | q
    ·have d1 : decide (o < 0) = true := decide_eq_true q
     go_wp2_with fail
     go_ret
     exact ⟨_, rfl, by rw [HOo.out]; exact owns_low HO.out HLo.out, HBw.out⟩
    ·have d1 : decide (o < 0) = false := decide_eq_false (by omega)
     have d2 : decide (4 < o) = true := decide_eq_true q
     go_wp2_with fail
     go_ret
     exact ⟨_, rfl, by rw [HOo.out]; exact owns_low HO.out HLo.out, HBw.out⟩
   have d1 : decide (o < 0) = false := decide_eq_false (by omega)
   have d2 : decide (4 < o) = false := decide_eq_false (by omega)
   obtain ⟨p, hp, hout⟩ := HS.out.some (by omega)
   have HSrt := Lib.hid (show Calls Tryz.prog 23 #[.int .i64 o, .bool h.rev, .bool h.dirs, .slice ka (thereL M l).length kc] wk fun e w' => ∃ v, e = .returned v ∧ w'.ownsRow wk.heap.size 3 1 v (thereL M l).length (O.ints (p.map fun i : Nat => (i : Int))) ∧ Below wk.heap.size wk w' from by
    have hIk : O.IsKeys wk ka (keysI M h.clock l) := by
     have h1 := HK.out
     rw [← hKl] at h1
     obtain ⟨a', c', e1, r1, _, _, _⟩ := RowL.of_owns kyL_len h1
     simp only [Value.slice.injEq] at e1
     obtain ⟨rfl, _, _⟩ := e1
     exact r1
    have := O.rsort_any o h.rev h.dirs (keysI M h.clock l) ka kc p wk hIk (by omega) HKz.out hp
    rwa [hKl] at this)
   have hpl : p.length = (thereL M l).length := (O.SortP.length hp).trans hKl
   have HPl := Lib.hid (show ∀ i ∈ p, i < (thereL M l).length from sorted_lt hp)
   have HOo := Lib.hid hout
   clear hp hout HS hno HK HKz HKs
   generalize thereL M l = T at HO HSrt HPl HOo hTl hKl hpl ⊢
   have HHpl := Lib.hid hpl
   go_wp2_with fail
   refine HSrt.out.mono ?_
   rintro e w5 ⟨pv, rfl, hop, hb5⟩
   have HP5 := Lib.hid hop
   have HO5 := Lib.hid (owns_to HO.out hb5)
   have HB5 := Lib.hid (HBw.out.trans (hb5.mono HBw.out.size))
   obtain ⟨pa, pc, hpv⟩ := owns_form hop
   subst hpv
   clear hop hb5 HSrt HO HBw c2 c3 c4
   go_wp2_with fail
   go_loopw [12, 13] (OutLRel T p w5) (fun _ v _ => T.length - (intOf v).toNat)
   case atStart => exact ⟨0, Nat.zero_le _, rfl, Lib.hid (World.ownsRow_nil _ _ _ _), Lib.hid (Below.refl _ _)⟩
   case round =>
    obtain ⟨j, hj, rfl, HO, HB⟩ := hrel
    by_cases hjt : j < T.length
    ·obtain ⟨k, hk⟩ : ∃ k, p[j]? = some k := ⟨_, List.getElem?_eq_getElem (by omega)⟩
     have hkT := HPl.out k (List.mem_of_getElem? hk)
     obtain ⟨en, hen⟩ : ∃ en, T[k]? = some en := ⟨_, List.getElem?_eq_getElem hkT⟩
     obtain ⟨g, cg, hv, _, _⟩ := owns_some HO5.out (show 0 < T.length by omega)
     simp only [Value.slice.injEq] at hv
     obtain ⟨rfl, _, rfl⟩ := hv
     obtain ⟨gp, cp, hv, _, _⟩ := owns_some HP5.out (show 0 < T.length by omega)
     simp only [Value.slice.injEq] at hv
     obtain ⟨rfl, _, rfl⟩ := hv
     have p0 : wr.cell? ⟨gp, j, none⟩ = some (.int .i64 (k : Int)) := owns_cell (owns_to HP5.out HB.out) (by unfold O.ints; rw [List.getElem?_map, List.getElem?_map, hk]; rfl)
     have HRg := Lib.hid (ent_at HO5.out HB.out hen)
     have HPk := Lib.hid (show pickL T (p.take (j + 1)) = pickL T (p.take j) ++ [en] from by rw [take_nat hk]; exact pick_snoc hen)
     have d0 : decide ((j : Int) < (T.length : Int)) = true := decide_eq_true (by omega)
     clear hk hen
     go_wp2_with (first
      | (refine wpList_load_mid rfl 46 (.tmp 92) rfl g (k * 2) rfl _ _ HRg.out Tryz.underlying46 rfl sizeEn ?_)
      | (at_builtin; go_loud (refine wpList_append_lies _ rfl (.tmp 86) (.tmp 94) 23 rfl w5.heap.size 46 i0 _ 2 24 Tryz.underlying23 hi0 hz0 hz1 hz2 rfl (by decide) _ _ _ rfl (owns_to HO.out ((Below.refl _ _).alloc (Nat.le_refl _) _)) ⟨wr.heap.size, 0, none⟩ 1 1 (enC en) rfl rfl (World.news_of_block (heap_alloc_new _ _)) (enC_one _) (by decide) (by unfold maxLen; omega) (by omega) (HB.out.alloc HB.out.size _).size _ rfl ?_; intro g1 cap1 w8 hown hgrow hat hlt1; have HO8 := Lib.hid hown; have HB8 := Lib.hid ((HB.out.alloc HB.out.size _).grown hgrow (HB.out.alloc HB.out.size _).size (fun k e => (HO.out.lt k e).1)); clear hown hgrow hat hlt1)))
     go_roundw
     case rel => exact ⟨j + 1, by omega, by simp, Lib.hid (by rw [HPk.out, cellsC_app, cellsC_one]; exact HO8.out), HB8⟩
     case measure => simp [intOf]; omega
    ·obtain rfl : j = T.length := by omega
     have d0 : decide (((T.length : Nat) : Int) < (T.length : Int)) = false := decide_eq_false (by omega)
     rw [show p.take T.length = p from by rw [← HHpl.out]; exact List.take_length] at HO
     have HLn := Lib.hid (show (pickL T p).length = T.length from by rw [pick_len HPl.out]; exact HHpl.out)
     go_wp2_with fail
     go_ret
     exact ⟨_, rfl, by rw [HOo.out, HLn.out]; exact owns_low HO.out HB5.out.size, HB5.out.trans (HB.out.mono HB5.out.size)⟩
end Go.Proofs.YtfhagjnlliafiaaGreatDoor.I
namespace Go.Proofs.YtfhagjnlliafiaaGreatDoor.I
open Go.Proofs.YtfhagjnlliafiaaGreatDoor.B
open Go.RowKit
theorem infoI64 : (Tryz.prog.info? 2).map (fun i => (i.zero, i.size, i.bytes)) = some (some (.int .i64 0), 1, 8) := by kernel_rfl
def blksL (M : List V.Nd) (T : List En) : List Int := T.map fun e => (V.nvAt M (V.overI M e.2)).blocks
theorem blks_sum (M : List V.Nd) (T : List En) : N.addAll (blksL M T) = sumT M T := rfl
theorem blks_len (M : List V.Nd) (T : List En) : (blksL M T).length = T.length := List.length_map _
def blksV (M : List V.Nd) (T : List En) : List Value := (blksL M T).map (Value.int .i64)
theorem blksV_snoc (M : List V.Nd) (T : List En) (e : En) : blksV M (T ++ [e]) = blksV M T ++ [.int .i64 (V.nvAt M (V.overI M e.2)).blocks] := by
 unfold blksV blksL
 rw [List.map_append, List.map_append]
 rfl
def TotRRel (M : List V.Nd) (l : List En) (w1 : World) (v5 v6 : Value) (wr : World) : Prop :=
 ∃ k : Nat, k ≤ l.length ∧ v6 = .int .i64 (k : Int) ∧ Hid (wr.ownsRow w1.heap.size 2 1 v5 (thereL M (l.take k)).length (blksV M (thereL M (l.take k)))) ∧ Hid (Below w1.heap.size w1 wr)
theorem rtotal_any {M : List V.Nd} {L : List V.It} {r : V.Rv} (l : List En) (a : Option Addr) (cap : Nat) (w : World) (HR : V.Rs M L r w) (R : V.Rel M L) (hG : GoodI M) (hL : L.length ≤ 1000000) (H : EntL w a l) (hl : l.length ≤ 1000) :
  Calls Tryz.prog 12 #[V.rvV r, .slice a l.length cap] w fun e w' => e = .returned (.int .i64 (N.ceilZ (blocksI M l) 2)) ∧ Below w.heap.size w w' := by
 obtain ⟨i0, hi0, hz0, hz1, hz2⟩ := info_parts infoI64
 obtain ⟨gn, cn, al, cl, gc, cc, gd, cd, ga, ca, af, cf, hr⟩ := HR.at6 hG.pos
 subst hr
 have HHs := Lib.hid (fun (i : Int) (W : World) (hb : Below w.heap.size w W) => V.refHas_any M L _ i W (HR.keep hb))
 have HOv := Lib.hid (fun (i : Int) (W : World) (hb : Below w.heap.size w W) => V.rover_any M L _ i W (HR.keep hb) R hG.pos (by have := hG.few; omega) hL)
 have HNd := Lib.hid (show ∀ (W : World), Below w.heap.size w W → ∀ (j : Nat) (x : V.Nd), M[j]? = some x → W.rangeAt gn (j * 13) (nodeC (bareNv (V.nvOf x))) from fun W hb j x hx k u hu => (HR.keep hb).node_cell hx (by have := (List.getElem?_eq_some_iff.1 hu).1; exact this) hu)
 have HGn := Lib.hid (show gn < w.heap.size from (HR.hn.lt gn rfl).2)
 have HE := Lib.hid (fun (W : World) (hb : Below w.heap.size w W) => H.keep hb)
 have HAt := Lib.hid (fun (i : Int) (h : 0 ≤ i ∧ i < (M.length : Int)) => over_at hG.ov h)
 have HVl := Lib.hid (show ∀ T : List En, ∀ i, I64 ((blksL M T).getD i 0) from fun T i => by
  by_cases hi : i < (blksL M T).length
  ·have hm : (blksL M T)[i] ∈ blksL M T := List.getElem_mem hi
   obtain ⟨e, _, he⟩ := List.mem_map.1 hm
   rw [List.getD_eq_getElem?_getD, List.getElem?_eq_getElem hi, Option.getD_some, ← he]
   exact (hG.val _).blk
  ·rw [List.getD_eq_getElem?_getD, List.getElem?_eq_none (by omega), Option.getD_none]
   exact ⟨(by decide : (-9223372036854775808 : Int) ≤ 0), (by decide : (0 : Int) ≤ 9223372036854775807)⟩)
 have hTl := there_len M l
 have hMl := hG.few
 have HBl := Lib.hid (show blocksI M l = sumT M (thereL M l) from rfl)
 clear HR R hG H hL
 unfold V.rvV at HHs HOv ⊢
 go_enter Tryz.func12, Tryz.ntmps12
 go_upto_region 2 with fail
 obtain ⟨B0, hB0⟩ : ∃ B0, w.heap.size = B0 := ⟨_, rfl⟩
 obtain ⟨w1, hw1⟩ : ∃ w1, w.alloc (.cells #[.slice (some ⟨gn, 0, none⟩) M.length cn, .slice al L.length cl, .slice (some ⟨gc, 0, none⟩) M.length cc, .slice (some ⟨gd, 0, none⟩) M.length cd, .slice (some ⟨ga, 0, none⟩) M.length ca, .slice af (V.devL M 0).length cf] 36) = w1 := ⟨_, rfl⟩
 have HB1 := Lib.hid (show Below w.heap.size w w1 from by rw [← hw1]; exact (Below.refl _ _).alloc (Nat.le_refl _) _)
 have HX1 := Lib.hid (show w1.heap[B0]? = some (.cells #[.slice (some ⟨gn, 0, none⟩) M.length cn, .slice al L.length cl, .slice (some ⟨gc, 0, none⟩) M.length cc, .slice (some ⟨gd, 0, none⟩) M.length cd, .slice (some ⟨ga, 0, none⟩) M.length ca, .slice af (V.devL M 0).length cf] 36) from by
  rw [← hw1, ← hB0]
  exact heap_alloc_new _ _)
 rw [hw1, hB0]
 clear hw1
 have HXf := Lib.hid (show ∀ W, Below w1.heap.size w1 W → W.heap[B0]? = some (.cells #[.slice (some ⟨gn, 0, none⟩) M.length cn, .slice al L.length cl, .slice (some ⟨gc, 0, none⟩) M.length cc, .slice (some ⟨gd, 0, none⟩) M.length cd, .slice (some ⟨ga, 0, none⟩) M.length ca, .slice af (V.devL M 0).length cf] 36) from fun W hb => (hb.block _ (heap_lt HX1.out)).trans HX1.out)
 clear HX1
 go_wp2_with fail
 go_loopw [5, 6] (TotRRel M l w1) (fun _ v _ => l.length - (intOf v).toNat)
 case atStart => exact ⟨0, Nat.zero_le _, rfl, Lib.hid (World.ownsRow_nil _ _ _ _), Lib.hid (Below.refl _ _)⟩
 case round =>
  obtain ⟨k, hk, rfl, HO, HBr⟩ := hrel
  have HBw := Lib.hid (HB1.out.trans (HBr.out.mono HB1.out.size))
  by_cases hlt : k < l.length
  ·obtain ⟨en, hen⟩ : ∃ en, l[k]? = some en := ⟨_, List.getElem?_eq_getElem hlt⟩
   obtain ⟨g, og, ha, hg0, _⟩ := HE.out _ (Below.refl _ _) |>.at_ hen
   subst ha
   have HRg := Lib.hid (show ∀ W, Below wr.heap.size wr W → W.cell? ⟨g, og + k * 2, none⟩ = some (.string en.1) ∧ W.cell? ⟨g, og + k * 2 + 1, none⟩ = some (.int .i64 en.2) from fun W hb => by
    obtain ⟨g', o', e, _, r⟩ := (HE.out W (HBw.out.trans (hb.mono HBw.out.size))).at_ hen
    simp only [Option.some.injEq, Addr.mk.injEq] at e
    obtain ⟨rfl, rfl, _⟩ := e
    exact ⟨r 0 _ rfl, r 1 _ rfl⟩)
   have HEn := Lib.hid hen
   clear hen
   have hTk := there_take M l k
   have d0 : decide ((k : Int) < (l.length : Int)) = true := decide_eq_true (by omega)
   go_upto_region 5 with fail
   by_cases hth : 0 ≤ en.2 ∧ en.2 < (M.length : Int)
   ·have dth : decide (0 ≤ en.2 ∧ en.2 < (M.length : Int)) = true := decide_eq_true hth
    have HTh := Lib.hid hth
    clear hth
    refine B.Till.region (z := 1000) (S := fun w' => Below wr.heap.size wr w') (by kernel_rfl) ((Below.refl _ _).drew) (fun hHeld => ?_)
    refine B.Till.takeA (i := 0) (v := .agg #[.slice (some ⟨gn, 0, none⟩) M.length cn, .slice al L.length cl, .slice (some ⟨gc, 0, none⟩) M.length cc, .slice (some ⟨gd, 0, none⟩) M.length cd, .slice (some ⟨ga, 0, none⟩) M.length ca, .slice af (V.devL M 0).length cf]) rfl (by kernel_rfl) (by kernel_rfl) (by kernel_rfl) (by kernel_rfl) (fun _ _ _ h => h) (yieldsIf_load_mid (by rfl) 36 (.tmp 2) rfl B0 0 rfl [.slice (some ⟨gn, 0, none⟩) M.length cn, .slice al L.length cl, .slice (some ⟨gc, 0, none⟩) M.length cc, .slice (some ⟨gd, 0, none⟩) M.length cd, .slice (some ⟨ga, 0, none⟩) M.length ca, .slice af (V.devL M 0).length cf] _ (fun w0 hS0 => range_of (HXf.out _ (HBr.out.trans (hS0.mono HBr.out.size)))) Tryz.underlying36 rfl sizeFs) (by assumption) ?_
    try simp only [u, lt, l0, ls]
    refine B.Till.tk 1 (.slice (some ⟨g, og, none⟩) l.length cap) rfl (fun w0 hS0 => ?_) ?_
    ·go_simp
    try simp only [u, lt, l0, ls]
    refine B.Till.tk 2 (.int .i64 (k : Int)) rfl (fun w0 hS0 => ?_) ?_
    ·go_simp
    try simp only [u, lt, l0, ls]
    refine B.Till.tk 3 (.pointer (some ⟨g, og + k * 2, none⟩)) rfl (fun w0 hS0 => ?_) ?_
    ·go_simp
    try simp only [u, lt, l0, ls]
    refine B.Till.tk 4 (.pointer (some ⟨g, og + k * 2 + 1, none⟩)) rfl (fun w0 hS0 => ?_) ?_
    ·go_simp
    try simp only [u, lt, l0, ls]
    refine B.Till.tk 5 (.int .i64 en.2) rfl (fun w0 hS0 => ?_) ?_
    ·have r1 := (HRg.out _ hS0).2; go_simp
    try simp only [u, lt, l0, ls]
    refine B.Till.tn 6 rfl fun K hK => ?_
    go_simp
    refine (HHs.out en.2 _ (HBw.out.trans (hHeld.mono HBw.out.size))).mono ?_
    rintro e w5 ⟨rfl, hb5⟩
    have hH5 : Below wr.heap.size wr w5 := hHeld.trans (hb5.mono hHeld.size)
    clear hb5
    rw [dth]
    go_wp2_with fail
    refine hK.out _ _ (fun _ => hH5) ?_
    clear hK K
    try simp only [u, lt, l0, ls]
    refine B.Till.done (by kernel_rfl) ?_
    have HH5 := Lib.hid hH5
    clear hHeld hH5
    have HBw5 := Lib.hid (HBw.out.trans (HH5.out.mono HBw.out.size))
    have HB15 := Lib.hid (HBr.out.trans (HH5.out.mono HBr.out.size))
    obtain ⟨j, x, hj, hx, hnv⟩ := HAt.out en.2 HTh.out
    have hjM := (List.getElem?_eq_some_iff.1 hx).1
    have HXf5 := Lib.hid (HXf.out _ HB15.out)
    have HR5 := Lib.hid (HRg.out _ HH5.out).2
    have HN5 := Lib.hid (show w5.cell? ⟨gn, j * 13 + 7, none⟩ = some (.int .i64 (V.nvOf x).blocks) from HNd.out _ HBw5.out j x hx 7 _ rfl)
    have HOv5 := Lib.hid (fun (W : World) (hb : Below w5.heap.size w5 W) => HOv.out en.2 W (HBw5.out.trans (hb.mono HBw5.out.size)))
    rw [hj] at HOv5
    have HTk := Lib.hid (show thereL M (l.take (k + 1)) = thereL M (l.take k) ++ [en] from by rw [take_one HEn.out, there_snoc, if_pos ((there_iff en.2).2 HTh.out)])
    have HBk := Lib.hid (show blksV M (thereL M (l.take k) ++ [en]) = blksV M (thereL M (l.take k)) ++ [.int .i64 (V.nvOf x).blocks] from by rw [blksV_snoc, hnv])
    have HO5 := Lib.hid (owns_to HO.out HH5.out)
    have HLg := Lib.hid (show g < w1.heap.size ∧ gn < w1.heap.size ∧ B0 < w1.heap.size ∧ w1.heap.size ≤ w5.heap.size from ⟨Nat.lt_of_lt_of_le hg0 HB1.out.size, Nat.lt_of_lt_of_le HGn.out HB1.out.size, heap_lt (HXf.out _ (Below.refl _ _)), HB15.out.size⟩)
    generalize (V.nvOf x).blocks = bl at HN5 HBk
    clear hj hx hnv HO HTh HEn HRg HH5 HBw HBr HOv HHs HBw5 hg0
    generalize thereL M (l.take k) = T at HO5 HTk hTk HBk
    generalize blksV M T = TV at HO5 HBk
    obtain ⟨ba, bc, hbv⟩ := owns_form HO5.out
    subst hbv
    go_upto_region 6 with fail
    refine B.Till.region (z := 1000) (S := fun w' => w'.heap[B0]? = w5.heap[B0]? ∧ w'.heap[g]? = w5.heap[g]? ∧ w'.heap[gn]? = w5.heap[gn]?) (by kernel_rfl) ⟨rfl, rfl, rfl⟩ (fun hHeld => ?_)
    refine B.Till.tk 0 (.slice ba T.length bc) rfl (fun w0 hS0 => ?_) ?_
    ·go_simp
    try simp only [u, lt, l0, ls]
    refine B.Till.tk 1 (.pointer (some ⟨B0, 0, none⟩)) rfl (fun w0 hS0 => ?_) ?_
    ·go_simp
    try simp only [u, lt, l0, ls]
    refine B.Till.tk 2 (.slice (some ⟨gn, 0, none⟩) M.length cn) rfl (fun w0 hS0 => ?_) ?_
    ·have c0 : w0.cell? ⟨B0, 0, none⟩ = some (.slice (some ⟨gn, 0, none⟩) M.length cn) := by rw [cell_of_row _ _ _ _ _ _ (hS0.1.trans HXf5.out)]; rfl
     go_simp
    try simp only [u, lt, l0, ls]
    refine B.Till.takeA (i := 3) (v := .agg #[.slice (some ⟨gn, 0, none⟩) M.length cn, .slice al L.length cl, .slice (some ⟨gc, 0, none⟩) M.length cc, .slice (some ⟨gd, 0, none⟩) M.length cd, .slice (some ⟨ga, 0, none⟩) M.length ca, .slice af (V.devL M 0).length cf]) rfl (by kernel_rfl) (by kernel_rfl) (by kernel_rfl) (by kernel_rfl) (fun _ _ _ h => h) (yieldsIf_load_mid (by rfl) 36 (.tmp 2) rfl B0 0 rfl [.slice (some ⟨gn, 0, none⟩) M.length cn, .slice al L.length cl, .slice (some ⟨gc, 0, none⟩) M.length cc, .slice (some ⟨gd, 0, none⟩) M.length cd, .slice (some ⟨ga, 0, none⟩) M.length ca, .slice af (V.devL M 0).length cf] _ (fun w0 hS0 => range_of (hS0.1.trans HXf5.out)) Tryz.underlying36 rfl sizeFs) (by assumption) ?_
    try simp only [u, lt, l0, ls]
    refine B.Till.tk 4 (.slice (some ⟨g, og, none⟩) l.length cap) rfl (fun w0 hS0 => ?_) ?_
    ·go_simp
    try simp only [u, lt, l0, ls]
    refine B.Till.tk 5 (.int .i64 (k : Int)) rfl (fun w0 hS0 => ?_) ?_
    ·go_simp
    try simp only [u, lt, l0, ls]
    refine B.Till.tk 6 (.pointer (some ⟨g, og + k * 2, none⟩)) rfl (fun w0 hS0 => ?_) ?_
    ·go_simp
    try simp only [u, lt, l0, ls]
    refine B.Till.tk 7 (.pointer (some ⟨g, og + k * 2 + 1, none⟩)) rfl (fun w0 hS0 => ?_) ?_
    ·go_simp
    try simp only [u, lt, l0, ls]
    refine B.Till.tk 8 (.int .i64 en.2) rfl (fun w0 hS0 => ?_) ?_
    ·have r1 : w0.cell? ⟨g, og + k * 2 + 1, none⟩ = some (.int .i64 en.2) := (World.cell?_of_block hS0.2.1).trans HR5.out
     go_simp
    try simp only [u, lt, l0, ls]
    refine B.Till.tn 9 rfl fun K hK => ?_
    go_simp
    have hHb : Below w5.heap.size w5 w5.drew := (Below.refl _ _).drew
    refine (HOv5.out _ hHb).mono ?_
    rintro e w9 ⟨rfl, hb9⟩
    have hb9' : Below w5.heap.size w5 w9 := ⟨hb9.os, hb9.tape, hb9.output, hb9.size, hb9.block⟩
    have hS9 : w9.heap[B0]? = w5.heap[B0]? ∧ w9.heap[g]? = w5.heap[g]? ∧ w9.heap[gn]? = w5.heap[gn]? := ⟨hb9.block _ (Nat.lt_of_lt_of_le HLg.out.2.2.1 HLg.out.2.2.2), hb9.block _ (Nat.lt_of_lt_of_le HLg.out.1 HLg.out.2.2.2), hb9.block _ (Nat.lt_of_lt_of_le HLg.out.2.1 HLg.out.2.2.2)⟩
    have HL9 := Lib.hid hb9'.size
    have HO9 := Lib.hid (owns_to HO5.out hb9')
    have HB9 := Lib.hid (HB15.out.trans (hb9'.mono HB15.out.size))
    clear hb9 hb9'
    go_wp2_with fail
    refine hK.out _ _ (fun _ => hS9) ?_
    clear hK K
    try simp only [u, lt, l0, ls]
    refine B.Till.tk 10 (.pointer (some ⟨gn, j * 13, none⟩)) rfl (fun w0 hS0 => ?_) ?_
    ·go_simp
    try simp only [u, lt, l0, ls]
    refine B.Till.tk 11 (.pointer (some ⟨gn, j * 13 + 7, none⟩)) rfl (fun w0 hS0 => ?_) ?_
    ·go_simp
    try simp only [u, lt, l0, ls]
    refine B.Till.tk 12 (.int .i64 bl) rfl (fun w0 hS0 => ?_) ?_
    ·have n7 : w0.cell? ⟨gn, j * 13 + 7, none⟩ = some (.int .i64 bl) := (World.cell?_of_block hS0.2.2).trans HN5.out
     go_simp
    try simp only [u, lt, l0, ls]
    refine B.Till.tn 13 rfl fun K hK => ?_
    go_simp
    have hS10 : (w9.alloc (.cells #[.int .i64 bl] 2)).heap[B0]? = w5.heap[B0]? ∧ (w9.alloc (.cells #[.int .i64 bl] 2)).heap[g]? = w5.heap[g]? ∧ (w9.alloc (.cells #[.int .i64 bl] 2)).heap[gn]? = w5.heap[gn]? := ⟨(heap_alloc_old _ _ (Nat.lt_of_lt_of_le (Nat.lt_of_lt_of_le HLg.out.2.2.1 HLg.out.2.2.2) HL9.out)).trans hS9.1, (heap_alloc_old _ _ (Nat.lt_of_lt_of_le (Nat.lt_of_lt_of_le HLg.out.1 HLg.out.2.2.2) HL9.out)).trans hS9.2.1, (heap_alloc_old _ _ (Nat.lt_of_lt_of_le (Nat.lt_of_lt_of_le HLg.out.2.1 HLg.out.2.2.2) HL9.out)).trans hS9.2.2⟩
    have HAl := Lib.hid (show Below w9.heap.size w9 (w9.alloc (.cells #[.int .i64 bl] 2)) from (Below.refl _ _).alloc (Nat.le_refl _) _)
    refine hK.out _ _ (fun _ => hS10) ?_
    clear hK K
    try simp only [u, lt, l0, ls]
    refine B.Till.tn 14 rfl fun K hK => ?_
    refine step_append_lies _ rfl (.tmp 20) (.tmp 33) 75 rfl w1.heap.size 2 i0 _ 1 8 Tryz.underlying75 hi0 hz0 hz1 hz2 rfl (by decide) (.slice ba T.length bc) T.length TV (by simp [Act.eval]) (owns_to HO9.out HAl.out) ⟨w9.heap.size, 0, none⟩ 1 1 [.int .i64 bl] (by simp [Act.eval]) rfl (World.news_of_block (heap_alloc_new _ _)) (by intro u hu; simp at hu; subst hu; rfl) (by decide) (by unfold maxLen; omega) (by omega) (HB9.out.alloc HB9.out.size _).size _ rfl ?_
    intro g11 cap11 w11 hown hgrow hat hlt1
    have hS11 : w11.heap[B0]? = w5.heap[B0]? ∧ w11.heap[g]? = w5.heap[g]? ∧ w11.heap[gn]? = w5.heap[gn]? := ⟨(hgrow.block _ (Nat.lt_of_lt_of_le (Nat.lt_of_lt_of_le (Nat.lt_of_lt_of_le HLg.out.2.2.1 HLg.out.2.2.2) HL9.out) HAl.out.size) (fun e => by have q := (HO9.out.lt _ e.symm).1; have q2 := HLg.out.2.2.1; omega)).trans hS10.1, (hgrow.block _ (Nat.lt_of_lt_of_le (Nat.lt_of_lt_of_le (Nat.lt_of_lt_of_le HLg.out.1 HLg.out.2.2.2) HL9.out) HAl.out.size) (fun e => by have q := (HO9.out.lt _ e.symm).1; have q2 := HLg.out.1; omega)).trans hS10.2.1, (hgrow.block _ (Nat.lt_of_lt_of_le (Nat.lt_of_lt_of_le (Nat.lt_of_lt_of_le HLg.out.2.1 HLg.out.2.2.2) HL9.out) HAl.out.size) (fun e => by have q := (HO9.out.lt _ e.symm).1; have q2 := HLg.out.2.1; omega)).trans hS10.2.2⟩
    have HO11 := Lib.hid hown
    have HB11 := Lib.hid ((HB9.out.alloc HB9.out.size _).grown hgrow (HB9.out.alloc HB9.out.size _).size (fun k e => (HO9.out.lt k e).1))
    clear hown hgrow hat hlt1
    refine hK.out _ _ (fun _ => hS11) ?_
    clear hK K
    try simp only [u, lt, l0, ls]
    refine B.Till.tk 15 (oi := ⟨some 5, .assign (.tmp 34), 75, "ref.go:54", #[⟨14, .data⟩, ⟨14, .chain⟩, ⟨0, .phase⟩, ⟨1, .phase⟩, ⟨2, .phase⟩, ⟨3, .phase⟩, ⟨4, .phase⟩, ⟨5, .phase⟩, ⟨6, .phase⟩, ⟨7, .phase⟩, ⟨8, .phase⟩, ⟨9, .phase⟩, ⟨10, .phase⟩, ⟨11, .phase⟩, ⟨12, .phase⟩, ⟨13, .phase⟩, ⟨14, .phase⟩], none⟩) (.slice (some ⟨g11, 0, none⟩) (T.length + 1) cap11) rfl (fun w0 hS0 => ?_) ?_
    ·go_simp
    try simp only [u, lt, l0, ls]
    refine B.Till.done (by kernel_rfl) ?_
    go_wp2_with fail
    go_roundw
    case rel => exact ⟨k + 1, by omega, by simp, Lib.hid (by rw [HTk.out, HBk.out, List.length_append]; exact HO11.out), HB11⟩
    case measure => simp [intOf]; omega
   ·have dth : decide (0 ≤ en.2 ∧ en.2 < (M.length : Int)) = false := decide_eq_false hth
    have HTk := Lib.hid (show thereL M (l.take (k + 1)) = thereL M (l.take k) from by rw [take_one HEn.out, there_snoc, if_neg (fun q => hth ((there_iff en.2).1 q))])
    clear hth
    refine B.Till.region (z := 1000) (S := fun w' => Below wr.heap.size wr w') (by kernel_rfl) ((Below.refl _ _).drew) (fun hHeld => ?_)
    refine B.Till.takeA (i := 0) (v := .agg #[.slice (some ⟨gn, 0, none⟩) M.length cn, .slice al L.length cl, .slice (some ⟨gc, 0, none⟩) M.length cc, .slice (some ⟨gd, 0, none⟩) M.length cd, .slice (some ⟨ga, 0, none⟩) M.length ca, .slice af (V.devL M 0).length cf]) rfl (by kernel_rfl) (by kernel_rfl) (by kernel_rfl) (by kernel_rfl) (fun _ _ _ h => h) (yieldsIf_load_mid (by rfl) 36 (.tmp 2) rfl B0 0 rfl [.slice (some ⟨gn, 0, none⟩) M.length cn, .slice al L.length cl, .slice (some ⟨gc, 0, none⟩) M.length cc, .slice (some ⟨gd, 0, none⟩) M.length cd, .slice (some ⟨ga, 0, none⟩) M.length ca, .slice af (V.devL M 0).length cf] _ (fun w0 hS0 => range_of (HXf.out _ (HBr.out.trans (hS0.mono HBr.out.size)))) Tryz.underlying36 rfl sizeFs) (by assumption) ?_
    try simp only [u, lt, l0, ls]
    refine B.Till.tk 1 (.slice (some ⟨g, og, none⟩) l.length cap) rfl (fun w0 hS0 => ?_) ?_
    ·go_simp
    try simp only [u, lt, l0, ls]
    refine B.Till.tk 2 (.int .i64 (k : Int)) rfl (fun w0 hS0 => ?_) ?_
    ·go_simp
    try simp only [u, lt, l0, ls]
    refine B.Till.tk 3 (.pointer (some ⟨g, og + k * 2, none⟩)) rfl (fun w0 hS0 => ?_) ?_
    ·go_simp
    try simp only [u, lt, l0, ls]
    refine B.Till.tk 4 (.pointer (some ⟨g, og + k * 2 + 1, none⟩)) rfl (fun w0 hS0 => ?_) ?_
    ·go_simp
    try simp only [u, lt, l0, ls]
    refine B.Till.tk 5 (.int .i64 en.2) rfl (fun w0 hS0 => ?_) ?_
    ·have r1 := (HRg.out _ hS0).2; go_simp
    try simp only [u, lt, l0, ls]
    refine B.Till.tn 6 rfl fun K hK => ?_
    go_simp
    refine (HHs.out en.2 _ (HBw.out.trans (hHeld.mono HBw.out.size))).mono ?_
    rintro e w5 ⟨rfl, hb5⟩
    have hH5 : Below wr.heap.size wr w5 := hHeld.trans (hb5.mono hHeld.size)
    clear hb5
    rw [dth]
    go_wp2_with fail
    refine hK.out _ _ (fun _ => hH5) ?_
    clear hK K
    try simp only [u, lt, l0, ls]
    refine B.Till.done (by kernel_rfl) ?_
    go_wp2_with fail
    go_roundw
    case rel => exact ⟨k + 1, by omega, by simp, Lib.hid (by rw [HTk.out]; exact owns_to HO.out hH5), Lib.hid (HBr.out.trans (hH5.mono HBr.out.size))⟩
    case measure => simp [intOf]; omega
  ·obtain rfl : k = l.length := by omega
   rw [List.take_length] at HO
   have HV := Lib.hid (HVl.out (thereL M l))
   clear HNd HE HAt HOv HHs HXf HVl
   have d0 : decide (((l.length : Nat) : Int) < (l.length : Int)) = false := decide_eq_false (by omega)
   have HSb := Lib.hid (sumT_bd M (thereL M l))
   generalize thereL M l = T at HO HSb HBl hTl HV
   obtain ⟨ba, bc, hbv⟩ := owns_form HO.out
   subst hbv
   have HAd := Lib.hid (show Calls Tryz.prog 28 #[.slice ba T.length bc] wr fun e w' => e = .returned (.int .i64 (sumT M T)) ∧ wr = w' from by
    by_cases h0 : T = []
    ·subst h0
     exact N.refAdd_none bc ba wr
    ·obtain ⟨gb, cb, hv, _, _⟩ := owns_some HO.out (List.length_pos_iff.2 h0)
     simp only [Value.slice.injEq] at hv
     obtain ⟨rfl, _, rfl⟩ := hv
     have h1 := N.refAdd_some gb 0 T.length bc (blksL M T) wr (by rw [blks_len]; exact Nat.le_refl _) (by rw [blks_len]; omega) (fun i hi => by
      rw [Nat.zero_add]
      refine owns_cell HO.out ?_
      unfold blksV
      rw [List.getElem?_map, List.getElem?_eq_getElem hi, List.getD_eq_getElem?_getD, List.getElem?_eq_getElem hi]
      rfl) HV.out
     rwa [show (blksL M T).take T.length = blksL M T from by rw [← blks_len M T]; exact List.take_length, blks_sum] at h1)
   clear HV
   go_wp2_with fail
   refine HAd.out.mono ?_
   rintro e w9 ⟨rfl, rfl⟩
   go_wp2_with fail
   refine (N.refCeil_any _ 2 _ HSb.out.1 HSb.out.2 (by omega) (by omega)).mono ?_
   rintro e w9 ⟨rfl, rfl⟩
   go_wp2_with fail
   go_ret
   exact ⟨ret_int (by rw [HBl.out]), HBw.out⟩
end Go.Proofs.YtfhagjnlliafiaaGreatDoor.I
