/-
  What the reference's Do makes of a device more. Conditions: at most 1000000 nodes and entries, texts of at most 1000000 bytes.
-/
import Derived.Test.YtigkdehaepenhaaGreatDoorVRefDo7L
set_option linter.unusedVariables false
namespace Go.Proofs.YtigkdehaepenhaaGreatDoor.V
open Go.RowKit Go.BigFrame

theorem do_cover {M : List Nd} {c : Chg} {j : Nat} {y : Nd} (hw : wrongM M c = 0) (hk : c.kind = 7) (ht : c.to = (j : Int)) (hy : M[j]? = some y) : doM M c = coveredM M j c.a y.up ∧ doR M c = (M.length : Int) := by
  have ha : atM M c.to = some y := by unfold atM; rw [ht, if_pos ⟨by omega, by have := (List.getElem?_eq_some_iff.1 hy).1; omega⟩, Int.toNat_natCast]; exact hy
  unfold doM doR carryM
  rw [if_pos hw, if_pos hw, if_neg (by omega), if_neg (by omega), if_neg (by omega), if_neg (by omega), if_pos hk, ha, ht, Int.toNat_natCast]
  exact ⟨rfl, rfl⟩
theorem Rs.of_cover {M : List Nd} {L : List It} {v : Rv} {w : World} {m up : Int} {j : Nat} {y : Nd} (hI : DevInv M) (hj : M[j]? = some y)
    (H : ROwn w v (M.length + 1) (bares M ++ (addedNd (dirAt ((devL M 0).length + 1) m up) (dirAt ((devL M 0).length + 1) m up).dev M).bare) L.length (itCells L) (M.length + 1) ((covs M 0 ++ [Value.int .i64 (-1)]).set j (.int .i64 (M.length : Int))) (M.length + 1) (deads M ++ [.bool false]) (M.length + 1) (ups M ++ [.int .i64 up]) ((devL M 0).length + 1) (ints (devL M 0) ++ [.int .i64 (M.length : Int)])) : Rs (coveredM M j m up) L v w := by
  obtain ⟨a, b, c, e, f, g⟩ := H
  have hjl := (List.getElem?_eq_some_iff.1 hj).1
  obtain ⟨nn, hnn⟩ : ∃ nn, addedNd (dirNd (m % 4096) up) (((devL M 0).length : Int) + 1) M = nn := ⟨_, rfl⟩
  have hb : (addedNd (dirAt ((devL M 0).length + 1) m up) (dirAt ((devL M 0).length + 1) m up).dev M).bare = nn.bare := by rw [← hnn]; rfl
  have hino : nn.ino = 1 := by
    rw [← hnn]
    show 1 + cntD (((devL M 0).length : Int) + 1) M = 1
    rw [cntD_zero fun n hn => ?_]
    · rfl
    · obtain ⟨i, hi⟩ := List.mem_iff_getElem?.1 hn
      have := (hI i n hi).2.1
      omega
  have hov : nn.over = (M.length : Int) := by rw [← hnn]; rfl
  obtain ⟨s1, s2, s3, s4⟩ := seen_cover (M ++ [nn]) j (M.length : Int)
  have hcm : coveredM M j m up = (M ++ [nn]).modify j (setOver (M.length : Int)) := by unfold coveredM; rw [hnn]
  have hl : (coveredM M j m up).length = M.length + 1 := by rw [hcm, List.length_modify]; simp
  rw [hb] at a
  refine ⟨?_, b, ?_, ?_, ?_, ?_⟩
  · rw [hl, hcm, s1, bares_append, bares_one]; exact a
  · rw [hl, hcm, covs_cover (M ++ [nn]) 0 j y (M.length : Int) (by rw [List.getElem?_append_left hjl]; exact hj) (by omega), covs_append]
    have : covs [nn] (0 + M.length) = [.int .i64 (-1)] := by
      rw [Nat.zero_add, covs, covs]
      unfold cov
      rw [if_pos hov]
    rw [this]; exact c
  · rw [hl, hcm, s2]; unfold deads; rw [List.map_append]; show w.ownsRow 0 _ 1 v.d _ (_ ++ [.bool nn.dead]); rw [show nn.dead = false by rw [← hnn]; rfl]; exact e
  · rw [hl, hcm, s3]; unfold ups; rw [List.map_append]; show w.ownsRow 0 _ 1 v.a _ (_ ++ [.int .i64 nn.up]); rw [show nn.up = up by rw [← hnn]; rfl]; exact f
  · have hd : devL (coveredM M j m up) 0 = devL M 0 ++ [(M.length : Int)] := by
      rw [hcm, s4, devL_append]
      simp [devL, hino]
    rw [hd, List.length_append]; unfold ints at g ⊢; rw [List.map_append]; exact g
/-- What the region of a device more reads. -/
structure S7 (W : World) (gn : Nat) (mN cn : Nat) (al : Option Addr) (mL cl gc cc : Nat) (ad : Option Addr) (cd ga ca : Nat) (af : Option Addr) (mF cf : Nat) (c : Chg) (j : Nat) (u : Int) (w : World) : Prop where
  din : DIn W ⟨.slice (some ⟨gn, 0, none⟩) mN cn, .slice al mL cl, .slice (some ⟨gc, 0, none⟩) mN cc, .slice ad mN cd, .slice (some ⟨ga, 0, none⟩) mN ca, .slice af mF cf⟩ c w
  k2 : w.cell? ⟨W.heap.size + 1, 2, none⟩ = some (.int .i64 (j : Int))
  k5 : w.cell? ⟨W.heap.size + 1, 5, none⟩ = some (.int .i64 c.a)
  n : w.cell? ⟨ga, j, none⟩ = some (.int .i64 u)
  s0 : w.cell? ⟨W.heap.size, 0, none⟩ = some (.slice (some ⟨gn, 0, none⟩) mN cn)
  s1 : w.cell? ⟨W.heap.size, 1, none⟩ = some (.slice al mL cl)
  s2 : w.cell? ⟨W.heap.size, 2, none⟩ = some (.slice (some ⟨gc, 0, none⟩) mN cc)
  s3 : w.cell? ⟨W.heap.size, 3, none⟩ = some (.slice ad mN cd)
  s4 : w.cell? ⟨W.heap.size, 4, none⟩ = some (.slice (some ⟨ga, 0, none⟩) mN ca)
  s5 : w.cell? ⟨W.heap.size, 5, none⟩ = some (.slice af mF cf)
theorem S7.keep {W : World} {gn mN cn : Nat} {al : Option Addr} {mL cl gc cc : Nat} {ad : Option Addr} {cd ga ca : Nat} {af : Option Addr} {mF cf : Nat} {c : Chg} {j : Nat} {u : Int} {w w' : World}
    (h : S7 W gn mN cn al mL cl gc cc ad cd ga ca af mF cf c j u w) (hb : Below w.heap.size w w') : S7 W gn mN cn al mL cl gc cc ad cd ga ca af mF cf c j u w' :=
  ⟨h.din.keep hb, cell_keep h.k2 hb, cell_keep h.k5 hb, cell_keep h.n hb, cell_keep h.s0 hb, cell_keep h.s1 hb, cell_keep h.s2 hb, cell_keep h.s3 hb, cell_keep h.s4 hb, cell_keep h.s5 hb⟩

set_option maxRecDepth 100000 in
set_option maxHeartbeats 8000000 in
theorem rdo_cover (M : List Nd) (L : List It) (v : Rv) (c : Chg) (w : World) (H : Rs M L v w) (R : Rel M L) (hM : M.length ≤ 1000000) (hL : L.length ≤ 1000000) (hn : 0 < M.length) (hs : c.name.size ≤ 1000000) (hts : c.text.size ≤ 1000000) (hw : wrongM M c = 0) (hk : c.kind = 7)
    (j : Nat) (y : Nd) (ht : c.to = (j : Int)) (hx : M[j]? = some y) (hI : DevInv M) :
    Calls Tryz.prog 20 #[rvV v, chgV c] w (RDoP M L c w) := by
  have HKK := Lib.hid hk
  have HRs := Lib.hid (do_cover hw hk ht hx)
  have HC := Lib.hid (fun w' hb => rwrong_any M L v c w' (H.keep hb) R hM hL hn hs hts)
  have HH := Lib.hid H
  have D0 := DIn.begin w v c
  have HW := Lib.hid hw
  rw [hw] at HC
  clear hw
  obtain ⟨gn, cn, al, cl, gc, cc, ad, cd, aa, ca, af, cf, rfl⟩ := H.at_ hn
  obtain ⟨ga, ca', ea, _, _⟩ := owns_some H.ha hn
  simp only [Value.slice.injEq, true_and] at ea
  obtain ⟨rfl, rfl⟩ := ea
  clear H
  have HT := Lib.hid ht
  have HX := Lib.hid hx
  have hjl : j < M.length := (List.getElem?_eq_some_iff.1 hx).1
  clear ht hx hk
  unfold chgBox nilsR at D0
  unfold rvV chgV at HC
  unfold rvV chgV
  go_enter Tryz.func20, Tryz.ntmps20
  go_upto_region 1 with fail
  generalize hw2 : ((w.alloc _).alloc _).alloc _ = w2 at D0
  clear hw2
  have HD := Lib.hid D0
  have hb0 := D0.box
  have hc0 := D0.chg
  unfold chgBox at hc0
  have HB0 := Lib.hid hb0
  have HC0 := Lib.hid hc0
  clear hb0 hc0 D0
  go_wp2_with (first
    | fail
    | (refine wpList_load_row rfl 32 (.tmp 2) rfl w.heap.size rfl _ _ _ _ HB0.out Tryz.underlying32 rfl (by rw [sizeRef]; rfl) ?_)
    | (refine wpList_load_row rfl 54 (.tmp 3) rfl (w.heap.size + 1) rfl _ _ _ _ HC0.out Tryz.underlying54 rfl (by rw [sizeChg]; rfl) ?_))
  refine (HC.out _ HD.out.below).mono ?_
  rintro e2 w3 ⟨rfl, hb3⟩
  have D3 := HD.out.keep hb3
  have HD3 := Lib.hid D3
  have HR3 := Lib.hid (HH.out.keep D3.below)
  obtain ⟨q0, q1, q2, q3, q4, q5, q6, q7⟩ := chg_cells D3.chg
  have bx : ∀ j u, (#[.slice (some ⟨gn, 0, none⟩) M.length cn, .slice al L.length cl, .slice (some ⟨gc, 0, none⟩) M.length cc, .slice ad M.length cd, .slice (some ⟨ga, 0, none⟩) M.length ca, .slice af (devL M 0).length cf] : Array Value)[j]? = some u → w3.cell? ⟨w.heap.size, j, none⟩ = some u := fun j u hu => by rw [cell_of_row _ _ _ _ _ _ D3.box]; exact hu
  have p0 := bx 0 _ rfl
  have p1 := bx 1 _ rfl
  have p2 := bx 2 _ rfl
  have p3 := bx 3 _ rfl
  have p4 := bx 4 _ rfl
  have p5 := bx 5 _ rfl
  have n0 : w3.cell? ⟨ga, j, none⟩ = some (.int .i64 y.up) := owns_cell (HH.out.keep D3.below).ha (by unfold ups; rw [List.getElem?_map, HX.out]; rfl)
  rw [HT.out] at q2
  rw [HKK.out] at q0
  clear D3 hb3 HD HB0 HC0 bx
  have hdl := devL_len M 0
  have HADD := Lib.hid (fun wx (h : S7 w gn M.length cn al L.length cl gc cc ad cd ga ca af (devL M 0).length cf c j y.up wx) => show Calls Tryz.prog 38 #[.agg #[.slice (some ⟨gn, 0, none⟩) M.length cn, .slice al L.length cl, .slice (some ⟨gc, 0, none⟩) M.length cc, .slice ad M.length cd, .slice (some ⟨ga, 0, none⟩) M.length ca, .slice af (devL M 0).length cf], .int .i64 c.a, .int .i64 y.up] wx _ from rdev_any M L ⟨.slice (some ⟨gn, 0, none⟩) M.length cn, .slice al L.length cl, .slice (some ⟨gc, 0, none⟩) M.length cc, .slice ad M.length cd, .slice (some ⟨ga, 0, none⟩) M.length ca, .slice af (devL M 0).length cf⟩ c.a y.up wx (devL M 0) (rown_rs (HH.out.keep h.din.below)) hM (by omega))
  have HSA := Lib.hid (show S7 w gn M.length cn al L.length cl gc cc ad cd ga ca af (devL M 0).length cf c j y.up w3 from ⟨HD3.out, q2, q5, n0, p0, p1, p2, p3, p4, p5⟩)
  go_upto_region 18 with fail
  clear p0 p1 p2 p3 p4 p5 q0 q1 q2 q3 q4 q5 q6 q7 n0
  refine Till.region (z := 10) (S := S7 w gn M.length cn al L.length cl gc cc ad cd ga ca af (devL M 0).length cf c j y.up) (by kernel_rfl) (S7.keep HSA.out (Below.refl _ _).drew) (fun hHeld => ?_)
  refine Till.take (i := 0) (oi := { dst := some 90, op := Op.load 32 (Operand.tmp 2), type := 32, pos := "ref.go:142", after := #[], guard := none }) (v := .agg #[.slice (some ⟨gn, 0, none⟩) M.length cn, .slice al L.length cl, .slice (some ⟨gc, 0, none⟩) M.length cc, .slice ad M.length cd, .slice (some ⟨ga, 0, none⟩) M.length ca, .slice af (devL M 0).length cf]) rfl (by kernel_rfl) (by kernel_rfl) (by kernel_rfl) (by kernel_rfl) (fun _ _ _ h => h) (Or.inl ⟨by rfl, fun w0 hS0 => ?_⟩) (by assumption) ?_
  · have c0 := hS0.s0; have c1 := hS0.s1; have c2 := hS0.s2; have c3 := hS0.s3; have c4 := hS0.s4; have c5 := hS0.s5; go_simp
  try simp only [Act.put, List.setIfInBounds_toArray, List.set_cons_zero, List.set_cons_succ]
  refine Till.take (i := 1) (oi := { dst := some 91, op := Op.fieldAddr 54 (Operand.tmp 3) 5, type := 0, pos := "ref.go:142", after := #[], guard := none }) (v := .pointer (some ⟨(w.heap.size + 1), 5, none⟩)) rfl (by kernel_rfl) (by kernel_rfl) (by kernel_rfl) (by kernel_rfl) (fun _ _ _ h => h) (Or.inl ⟨by rfl, fun w0 hS0 => ?_⟩) (by assumption) ?_
  · go_simp
  try simp only [Act.put, List.setIfInBounds_toArray, List.set_cons_zero, List.set_cons_succ]
  refine Till.take (i := 2) (oi := { dst := some 92, op := Op.load 3 (Operand.tmp 91), type := 3, pos := "ref.go:142", after := #[{ on := 1, ground := Ground.data }], guard := none }) (v := .int .i64 (c.a)) rfl (by kernel_rfl) (by kernel_rfl) (by kernel_rfl) (by kernel_rfl) (fun _ _ _ h => h) (Or.inl ⟨by rfl, fun w0 hS0 => ?_⟩) (by assumption) ?_
  · have c := hS0.k5; go_simp
  try simp only [Act.put, List.setIfInBounds_toArray, List.set_cons_zero, List.set_cons_succ]
  refine Till.take (i := 3) (oi := { dst := some 93, op := Op.fieldAddr 32 (Operand.tmp 2) 4, type := 0, pos := "ref.go:142", after := #[], guard := none }) (v := .pointer (some ⟨w.heap.size, 4, none⟩)) rfl (by kernel_rfl) (by kernel_rfl) (by kernel_rfl) (by kernel_rfl) (fun _ _ _ h => h) (Or.inl ⟨by rfl, fun w0 hS0 => ?_⟩) (by assumption) ?_
  · go_simp
  try simp only [Act.put, List.setIfInBounds_toArray, List.set_cons_zero, List.set_cons_succ]
  refine Till.take (i := 4) (oi := { dst := some 94, op := Op.load 29 (Operand.tmp 93), type := 29, pos := "ref.go:142", after := #[{ on := 3, ground := Ground.data }], guard := none }) (v := .slice (some ⟨ga, 0, none⟩) M.length ca) rfl (by kernel_rfl) (by kernel_rfl) (by kernel_rfl) (by kernel_rfl) (fun _ _ _ h => h) (Or.inl ⟨by rfl, fun w0 hS0 => ?_⟩) (by assumption) ?_
  · have c := hS0.s4; go_simp
  try simp only [Act.put, List.setIfInBounds_toArray, List.set_cons_zero, List.set_cons_succ]
  refine Till.take (i := 5) (oi := { dst := some 95, op := Op.fieldAddr 54 (Operand.tmp 3) 2, type := 0, pos := "ref.go:142", after := #[], guard := none }) (v := .pointer (some ⟨(w.heap.size + 1), 2, none⟩)) rfl (by kernel_rfl) (by kernel_rfl) (by kernel_rfl) (by kernel_rfl) (fun _ _ _ h => h) (Or.inl ⟨by rfl, fun w0 hS0 => ?_⟩) (by assumption) ?_
  · go_simp
  try simp only [Act.put, List.setIfInBounds_toArray, List.set_cons_zero, List.set_cons_succ]
  refine Till.take (i := 6) (oi := { dst := some 96, op := Op.load 3 (Operand.tmp 95), type := 3, pos := "ref.go:142", after := #[{ on := 5, ground := Ground.data }], guard := none }) (v := .int .i64 ((j : Int))) rfl (by kernel_rfl) (by kernel_rfl) (by kernel_rfl) (by kernel_rfl) (fun _ _ _ h => h) (Or.inl ⟨by rfl, fun w0 hS0 => ?_⟩) (by assumption) ?_
  · have c := hS0.k2; go_simp
  try simp only [Act.put, List.setIfInBounds_toArray, List.set_cons_zero, List.set_cons_succ]
  refine Till.take (i := 7) (oi := { dst := some 97, op := Op.indexAddr 29 (Operand.tmp 94) (Operand.tmp 96), type := 0, pos := "ref.go:142", after := #[{ on := 4, ground := Ground.data }, { on := 6, ground := Ground.data }], guard := none }) (v := .pointer (some ⟨ga, j, none⟩)) rfl (by kernel_rfl) (by kernel_rfl) (by kernel_rfl) (by kernel_rfl) (fun _ _ _ h => h) (Or.inl ⟨by rfl, fun w0 hS0 => ?_⟩) (by assumption) ?_
  · go_simp
  try simp only [Act.put, List.setIfInBounds_toArray, List.set_cons_zero, List.set_cons_succ]
  refine Till.take (i := 8) (oi := { dst := some 98, op := Op.load 3 (Operand.tmp 97), type := 3, pos := "ref.go:142", after := #[{ on := 7, ground := Ground.data }], guard := none }) (v := .int .i64 (y.up)) rfl (by kernel_rfl) (by kernel_rfl) (by kernel_rfl) (by kernel_rfl) (fun _ _ _ h => h) (Or.inl ⟨by rfl, fun w0 hS0 => ?_⟩) (by assumption) ?_
  · have c := hS0.n; go_simp
  try simp only [Act.put, List.setIfInBounds_toArray, List.set_cons_zero, List.set_cons_succ]
  refine Till.next (i := 9) (o := { dst := some 99, op := Op.call { callee := Callee.value (Operand.func 38), args := #[Operand.tmp 90, Operand.tmp 92, Operand.tmp 98], argTypes := #[32, 3, 3] }, type := 32, pos := "ref.go:142", after := #[{ on := 0, ground := Ground.data }, { on := 2, ground := Ground.data }, { on := 8, ground := Ground.data }], guard := none }) (by kernel_rfl) rfl (fun K hK => ?_)
  go_simp
  refine (HADD.out _ hHeld).mono ?_
  rintro e w4 ⟨v3, rfl, ho3, hb3⟩
  obtain ⟨an3, cn3, al3, cl3, ac3, cc3, ad3, cd3, aa3, ca3, af3, cf3, rfl⟩ := rown_forms ho3
  unfold rvV
  have HO3 := Lib.hid ho3
  have HD5 := Lib.hid (hHeld.din.keep hb3)
  obtain ⟨t0, u0, t1, u1, t2, u2, t3, u3, t4, u4, t5, u5, h6, b6⟩ := six (.slice an3 (M.length + 1) cn3) (.slice al3 L.length cl3) (.slice ac3 (M.length + 1) cc3) (.slice ad3 (M.length + 1) cd3) (.slice aa3 (M.length + 1) ca3) (.slice af3 ((devL M 0).length + 1) cf3) HD5.out.box
  have H6 := Lib.hid h6
  have B6 := Lib.hid b6
  clear h6 b6 ho3
  go_wp2_with fail
  refine hK.out _ _ (fun _ => S7.keep hHeld hb3) ?_
  clear hK K hb3
  try simp only [Act.put, List.setIfInBounds_toArray, List.set_cons_zero, List.set_cons_succ]
  refine Till.next (i := 10) (o := { dst := none, op := Op.store 32 (Operand.tmp 2) (Operand.tmp 99), type := 0, pos := "ref.go:142", after := #[{ on := 9, ground := Ground.data }, { on := 9, ground := Ground.chain }, { on := 0, ground := Ground.phase }, { on := 1, ground := Ground.phase }, { on := 2, ground := Ground.phase }, { on := 3, ground := Ground.phase }, { on := 4, ground := Ground.phase }, { on := 5, ground := Ground.phase }, { on := 6, ground := Ground.phase }, { on := 7, ground := Ground.phase }, { on := 8, ground := Ground.phase }, { on := 9, ground := Ground.phase }], guard := none }) (by kernel_rfl) rfl (fun K hK => ?_)
  go_simp
  refine hK.out _ _ (fun q => absurd rfl q) ?_
  clear hK K
  try simp only [Act.put, List.setIfInBounds_toArray, List.set_cons_zero, List.set_cons_succ]
  refine Till.done (by kernel_rfl) ?_
  have D6 := HD5.out.but (v' := ⟨.slice an3 (M.length + 1) cn3, .slice al3 L.length cl3, .slice ac3 (M.length + 1) cc3, .slice ad3 (M.length + 1) cd3, .slice aa3 (M.length + 1) ca3, .slice af3 ((devL M 0).length + 1) cf3⟩) B6.out H6.out
  have O6 := But.rown B6.out HD5.out.box HO3.out
  generalize hw6 : (((((w4.setCell _ _).setCell _ _).setCell _ _).setCell _ _).setCell _ _).setCell _ _ = w6 at D6 O6 ⊢
  clear hw6
  obtain ⟨i0, hi, hz0, hz1, hz2⟩ := info_parts infoInt
  have HMX := Lib.hid (show 0 + (M.length + 1) ≤ maxLen from by unfold maxLen; omega)
  have hB6 : w.heap.size < w6.heap.size := heap_lt D6.box
  have p2 : w6.cell? ⟨w.heap.size, 2, none⟩ = some (.slice ac3 (M.length + 1) cc3) := by rw [cell_of_row _ _ _ _ _ _ D6.box]; rfl
  have p2a : ∀ o, (w6.alloc o).cell? ⟨w.heap.size, 2, none⟩ = some (.slice ac3 (M.length + 1) cc3) := fun o => (World.cell?_alloc_past _ _ _ hB6).trans p2
  have HD6 := Lib.hid D6
  have HO6 := Lib.hid O6
  have HS6 := Lib.hid (show ∀ o, (w6.alloc o).ownsRow 0 3 1 (.slice ac3 (M.length + 1) cc3) (M.length + 1) (covs M 0 ++ [.int .i64 (-1)]) from fun o => O6.2.2.1.alloc o)
  have HC1 := Lib.hid (show ∀ u ∈ covs M 0 ++ [Value.int .i64 (-1)], u.oneCell' = true from fun u hu => by
    rcases List.mem_append.1 hu with q | q
    · exact covs_one M 0 u q
    · rw [List.mem_singleton.1 q]; rfl)
  have HJL := Lib.hid (show j < (covs M 0 ++ [Value.int .i64 (-1)]).length by rw [List.length_append, covs_len]; simp; omega)
  clear D6 O6 hHeld HD5 HO3 H6 B6
  go_upto_region 20 with (at_builtin; refine wpList_append_row rfl (.tmp 100) (.tmp 102) 29 rfl w6.heap.size 3 i0 _ 1 8 Tryz.underlying29 hi hz0 hz1 hz2 rfl (by decide) (.slice (some ⟨w6.heap.size, 0, none⟩) 0 0) 0 [] rfl (owns_made (Nat.le_refl _)) (.slice ac3 (M.length + 1) cc3) (M.length + 1) (covs M 0 ++ [.int .i64 (-1)]) rfl (HS6.out _) HC1.out HMX.out (by omega) (by simp) ?_; intro v7 w7 hown7 hg7; obtain ⟨g7, cap7, e7, _, _⟩ := owns_some hown7 (by omega); rw [Nat.zero_add] at e7; subst e7; have hcp := coverC (u := .int .i64 (M.length : Int)) HD6.out HO6.out HJL.out hown7 hg7; have HCP := Lib.hid hcp; have cc0 := hcp.1.1; have ff0 := hcp.1.2; clear hown7 hg7 hcp)
  have D8 := HCP.out.2.1
  have E8 := HCP.out.2.2.1
  have D9 := HCP.out.2.2.2.1
  have O9 := HCP.out.2.2.2.2
  generalize hw8 : w7.setCell ⟨w.heap.size, 2, none⟩ (.slice (some ⟨g7, 0, none⟩) (M.length + 1) cap7) = w8 at D8 E8 D9 O9 ⊢
  obtain ⟨q0, q1, q2, q3, q4, q5, q6, q7⟩ := chg_cells D8.chg
  rw [HT.out] at q2
  have s2 : w8.cell? ⟨w.heap.size, 2, none⟩ = some (.slice (some ⟨g7, 0, none⟩) (M.length + 1) cap7) := by rw [cell_of_row _ _ _ _ _ _ D8.box]; rfl
  have e8 : w8.cell? ⟨g7, j, none⟩ = some ((covs M 0 ++ [Value.int .i64 (-1)])[j]'HJL.out) := by rw [E8.1, List.getElem?_eq_getElem HJL.out]
  have f8 := E8.2
  have HD9 := Lib.hid D9
  have HO9 := Lib.hid O9
  clear hw8 D8 E8 D9 O9 HCP cc0 ff0 hi hz0 hz1 hz2 p2 p2a hB6
  go_upto_region 21 with fail
  generalize hw9 : w8.setCell ⟨g7, j, none⟩ (.int .i64 (M.length : Int)) = w9 at HD9 HO9 ⊢
  have HB8 := Lib.hid HD9.out.box
  have hr8 := HD9.out.res
  unfold nilsR at hr8
  have HR8 := Lib.hid hr8
  clear hw9 hr8 q0 q1 q2 q3 q4 q5 q6 q7 s2 e8 f8
  go_wp2_with (first
    | fail
    | (refine wpList_load_row rfl 32 (.tmp 2) rfl w.heap.size rfl _ _ _ _ HB8.out Tryz.underlying32 rfl (by rw [sizeRef]; rfl) ?_)
    | (refine wpList_store_row rfl 32 (.tmp 4) (.tmp 111) rfl (w.heap.size + 1 + 1) _ rfl rfl _ _ HR8.out sizeRef rfl (one6 _ _ _ _ _ _ _ _ _ _ _ _ _ _ _ _ _ _) ?_))
  have hrs := Rs.of_cover hI HX.out HO9.out
  refine bodyPost_ret (v := .tuple #[.agg #[.slice an3 (M.length + 1) cn3, .slice al3 L.length cl3, .slice (some ⟨g7, 0, none⟩) (M.length + 1) cap7, .slice ad3 (M.length + 1) cd3, .slice aa3 (M.length + 1) ca3, .slice af3 ((devL M 0).length + 1) cf3], .int .i64 (M.length : Int), .int .i64 0]) ?_ rfl ⟨⟨.slice an3 (M.length + 1) cn3, .slice al3 L.length cl3, .slice (some ⟨g7, 0, none⟩) (M.length + 1) cap7, .slice ad3 (M.length + 1) cd3, .slice aa3 (M.length + 1) ca3, .slice af3 ((devL M 0).length + 1) cf3⟩, L, ?_, ?_, ?_, by omega, ?_⟩
  · exact results_do rfl (setRow_heap _ _ _ _ _ _ HR8.out) rfl
  · rw [HRs.out.2, HW.out]; rfl
  · rw [HRs.out.1]
    exact (but_setRow HR8.out _).rs HR8.out hrs
  · rw [HRs.out.1]
    exact R.covered
  · exact (but_setRow HR8.out _).below HD9.out.below (by omega) HD9.out.below.size
end Go.Proofs.YtigkdehaepenhaaGreatDoor.V
