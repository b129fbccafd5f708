/-
  Whether a visit has a line: what isTold answers is some bool, and nothing that was there changes. Conditions: the numbers are int64s.
  What a visit adds to a sum: its node counted, where it is the first one of it, and its lines. Conditions: the walk's depths; the numbers are int64s; the lines are few.
-/
import Derived.Test.YtpikndeefiediaaGreatDoorKUBegin
import Derived.Test.YtpikndeefiediaaGreatDoorKGMem
import Derived.Test.YtpikndeefiediaaGreatDoorKUMeet
import Derived.Test.YtpikndeefiediaaGreatDoorKGMode
set_option linter.unusedVariables false
set_option linter.unusedSimpArgs false
namespace Go.Proofs.YtpikndeefiediaaGreatDoor.U
open List renaming setIfInBounds_toArray → lt, set_cons_zero → l0, set_cons_succ → ls
open Go.Proofs.YtpikndeefiediaaGreatDoor.B
open Go.RowKit Go.Maps

/-- Some bool, and nothing that was there has changed. -/
def ToldR (w : World) (e : Ending) (w' : World) : Prop := ∃ b : Bool, e = .returned (.bool b) ∧ Below w.heap.size w w'
section
variable {W0 : World} {cb mb p : Nat} {H : How} {K : List Value} {wh : Int} {ln : Nat} {lv : Value} {w : World}
set_option maxRecDepth 100000 in
set_option maxHeartbeats 4000000 in
theorem told_any (v : G.Vis) (k : Int) (h : Cnt W0 cb mb p H K wh ln lv w) :
    Calls Tryz.prog 38 #[.pointer (some ⟨cb, 0, none⟩), G.visV v, .int .i64 k] w (ToldR w) := by
  have HB1 := Lib.hid (show Below w.heap.size w (w.alloc (.cells (G.visC v).toArray 82)) from (Below.refl _ _).alloc (Nat.le_refl _) _)
  have HX := Lib.hid (heap_alloc_new w (.cells (G.visC v).toArray 82))
  have HC := Lib.hid (h.keep HB1.out)
  clear h
  unfold G.visV
  go_enter Tryz.func38, Tryz.ntmps38
  go_upto_region 1 with fail
  unfold G.visC at HX HB1 HC
  generalize w.alloc (.cells #[.int .i64 v.id, .int .i64 v.depth, .string v.name, .string v.base, .bool v.last, .bool v.over, .int .i64 v.err] 82) = w1 at HX HB1 HC ⊢
  obtain ⟨B1, hB1⟩ : ∃ B1, w.heap.size = B1 := ⟨_, rfl⟩
  rw [hB1] at HX ⊢
  obtain ⟨_, c1, c2, _⟩ := HC.out.cells rfl
  have v1 : w1.cell? ⟨B1, 1, none⟩ = some (.int .i64 v.depth) := by rw [cell_of_row _ _ _ _ _ _ HX.out]; rfl
  have v5 : w1.cell? ⟨B1, 5, none⟩ = some (.bool v.over) := by rw [cell_of_row _ _ _ _ _ _ HX.out]; rfl
  have v6 : w1.cell? ⟨B1, 6, none⟩ = some (.int .i64 v.err) := by rw [cell_of_row _ _ _ _ _ _ HX.out]; rfl
  clear hB1 HC HX
  by_cases m0 : 0 ≤ H.most
  · have d0 : decide (H.most ≥ 0) = true := decide_eq_true m0
    by_cases m1 : H.most < v.depth
    · have d1 : decide (v.depth > H.most) = true := decide_eq_true m1
      go_quiet (fail)
      go_wp2_with fail
      go_ret
      exact Exists.intro _ ⟨rfl, below_drewNb HB1.out⟩
    · have d1 : decide (v.depth > H.most) = false := decide_eq_false m1
      go_quiet (fail)
      by_cases k0 : k = 2
      · cases ho : v.over
        all_goals rw [ho] at v5
        · by_cases e0 : v.err = 0
          all_goals
            go_wp2_with fail
            go_ret
            exact Exists.intro _ ⟨rfl, below_drewNb HB1.out⟩
        · go_wp2_with fail
          go_ret
          exact Exists.intro _ ⟨rfl, below_drewNb HB1.out⟩
      · cases ha : H.all
        all_goals rw [ha] at c1
        · by_cases p0 : v.depth = 0
          all_goals
            go_wp2_with fail
            go_ret
            exact Exists.intro _ ⟨rfl, below_drewNb HB1.out⟩
        · go_wp2_with fail
          go_ret
          exact Exists.intro _ ⟨rfl, below_drewNb HB1.out⟩
  · have d0 : decide (H.most ≥ 0) = false := decide_eq_false m0
    go_quiet (fail)
    by_cases k0 : k = 2
    · cases ho : v.over
      all_goals rw [ho] at v5
      · by_cases e0 : v.err = 0
        all_goals
          go_wp2_with fail
          go_ret
          exact Exists.intro _ ⟨rfl, below_drewNb HB1.out⟩
      · go_wp2_with fail
        go_ret
        exact Exists.intro _ ⟨rfl, below_drewNb HB1.out⟩
    · cases ha : H.all
      all_goals rw [ha] at c1
      · by_cases p0 : v.depth = 0
        all_goals
          go_wp2_with fail
          go_ret
          exact Exists.intro _ ⟨rfl, below_drewNb HB1.out⟩
      · go_wp2_with fail
        go_ret
        exact Exists.intro _ ⟨rfl, below_drewNb HB1.out⟩
end
end Go.Proofs.YtpikndeefiediaaGreatDoor.U

namespace Go.Proofs.YtpikndeefiediaaGreatDoor.U
open List renaming setIfInBounds_toArray → lt, set_cons_zero → l0, set_cons_succ → ls
open Go.Proofs.YtpikndeefiediaaGreatDoor.B
open Go.RowKit Go.Maps

/-- What is counted behind a visit. -/
def TakeZ (H : How) (K : List Value) (wh : Int) (v : G.Vis) (n : P.Nv) (K' : List Value) (wh' : Int) : Prop := (v.over = false ∧ v.err = 0 → K' = K ++ [keyV n] ∧ metZ H K n wh wh') ∧ (¬ (v.over = false ∧ v.err = 0) → K' = K ∧ wh' = wh)
/-- What take leaves. -/
def TakeR (W0 : World) (cb mb p : Nat) (H : How) (K : List Value) (wh : Int) (ln : Nat) (v : G.Vis) (n : P.Nv) (w : World) (e : Ending) (w' : World) : Prop := e = .returned (.tuple #[]) ∧ ∃ K' wh' ln' lv', TakeZ H K wh v n K' wh' ∧ ln' ≤ ln + 2 ∧ Cnt W0 cb mb p H K' wh' ln' lv' w' ∧ Kt w w'
def lnC (u : Int) (s : ByteArray) (e : Int) : List Value := [.int .i64 u, .string s, .int .i64 e]
theorem lnC_one (u : Int) (s : ByteArray) (e : Int) : ∀ x ∈ lnC u s e, x.oneCell' = true := by
  intro x hx
  simp only [lnC, List.mem_cons, List.not_mem_nil, or_false] at hx
  rcases hx with rfl | rfl | rfl <;> rfl
theorem infoLn : (Tryz.prog.info? 101).map (fun i => (i.zero, i.size, i.bytes)) = some (some (.agg #[.int .i64 0, .string ⟨#[]⟩, .int .i64 0]), 3, 32) := by kernel_rfl
theorem info_ln : ∃ i, Tryz.prog.info? 101 = some i ∧ i.zero = some (.agg #[.int .i64 0, .string ⟨#[]⟩, .int .i64 0]) ∧ i.size = 3 ∧ i.bytes = 32 := by
  obtain ⟨i, hi, e⟩ := Option.map_eq_some_iff.1 infoLn
  simp only [Prod.mk.injEq] at e
  exact ⟨i, hi, e.1, e.2.1, e.2.2⟩
theorem drew_rows (w : World) (t : TypeId) (c c' : Array Value) : (w.alloc (.cells c t)).drew.setRow w.drew.heap.size c' = (w.alloc (.cells c' t)).drew := congrArg World.drew (World.setRow_alloc_new w c c' t)
def nodeA (n : P.Nv) : Array Value := #[.int .i64 n.dev, .int .i64 n.ino, .int .i64 n.kind, .int .i64 n.mode, .int .i64 n.uid, .int .i64 n.gid, .int .i64 n.size, .int .i64 n.blocks, .int .i64 n.links, .int .i64 n.ta, .int .i64 n.tb, .int .i64 n.tc, .string n.target]
theorem nodeA_one (n : P.Nv) : (nodeA n).all (·.oneCell') = true := by unfold nodeA; simp [Value.oneCell']
theorem below_setR {B g : Nat} {a w : World} (h : Below B a w) (hg : B ≤ g) (cs : Array Value) : Below B a (w.setRow g cs) :=
  ⟨h.os, h.tape, h.output, by have := h.size; simp [World.setRow]; omega, fun k hk => by rw [setRow_other _ _ _ _ (by omega)]; exact h.block k hk⟩
theorem sizeV : (Tryz.prog.info? 82).map (·.size) = some 7 := by kernel_rfl
theorem openA_one (x : Int) (y : Bool) : (#[Value.int .i64 x, .bool y] : Array Value).all (·.oneCell') = true := by simp [Value.oneCell']

section
variable {W0 : World} {cb mb p : Nat} {H : How} {K : List Value} {wh : Int} {ln : Nat} {lv : Value} {w : World}
set_option maxRecDepth 100000 in
set_option maxHeartbeats 8000000 in
theorem take_any (v : G.Vis) (d : Nat) (n : P.Nv) (er : Int) (h : Cnt W0 cb mb p H K wh ln lv w) (hd : d < 101) (hv : v.depth = (d : Int)) (hK : K.length ≤ 10000000) (hln : ln ≤ 10000000) (hnm : v.name.size ≤ 1000000)
    (h1 : -9223372036854775808 ≤ n.dev ∧ n.dev ≤ 9223372036854775807) (h2 : -9223372036854775808 ≤ n.ino ∧ n.ino ≤ 9223372036854775807) (h3 : -9223372036854775808 ≤ n.blocks ∧ n.blocks ≤ 9223372036854775807) (h4 : -9223372036854775808 ≤ wh ∧ wh ≤ 9223372036854775807) (h5 : -9223372036854775808 ≤ H.unit ∧ H.unit ≤ 9223372036854775807)
    (hN : ∀ W, Below W0.heap.size W0 W → Calls Tryz.prog 7 #[.pointer (some ⟨p, 0, none⟩), .int .i64 v.id] W fun e w' => e = .returned (.tuple #[P.nodeV n, .int .i64 er]) ∧ Below W.heap.size W w') :
    Calls Tryz.prog 20 #[.pointer (some ⟨cb, 0, none⟩), G.visV v] w (TakeR W0 cb mb p H K wh ln v n w) := by
  have HN := Lib.hid (fun W (hb : Below w.heap.size w W) => hN W (h.low.trans (hb.mono h.low.size)))
  clear hN
  have HI := Lib.hid h
  have HTo := Lib.hid (show ∀ (W : World) (K' : List Value) (wh' : Int) (ln' : Nat) (lv' : Value), Cnt W0 cb mb p H K' wh' ln' lv' W → ∀ k : Int, Calls Tryz.prog 38 #[.pointer (some ⟨cb, 0, none⟩), .agg #[.int .i64 v.id, .int .i64 (d : Int), .string v.name, .string v.base, .bool v.last, .bool v.over, .int .i64 v.err], .int .i64 k] W (ToldR W) from fun W K' wh' ln' lv' hc k => by
    have q := told_any v k hc
    unfold G.visV at q
    rw [hv] at q
    exact q)
  clear h
  unfold G.visV
  rw [hv]
  clear hv
  go_enter Tryz.func20, Tryz.ntmps20
  go_upto_region 1 with fail
  have HB1 := Lib.hid ((Below.refl w.heap.size w).alloc (Nat.le_refl _) (.cells #[.int .i64 v.id, .int .i64 (d : Int), .string v.name, .string v.base, .bool v.last, .bool v.over, .int .i64 v.err] 82))
  have HX1 := Lib.hid (heap_alloc_new w (.cells #[.int .i64 v.id, .int .i64 (d : Int), .string v.name, .string v.base, .bool v.last, .bool v.over, .int .i64 v.err] 82))
  generalize w.alloc (.cells #[.int .i64 v.id, .int .i64 (d : Int), .string v.name, .string v.base, .bool v.last, .bool v.over, .int .i64 v.err] 82) = w1 at HB1 HX1 ⊢
  obtain ⟨B1, hB1⟩ : ∃ B1, w.heap.size = B1 := ⟨_, rfl⟩
  rw [hB1] at HX1 ⊢
  have HI1 := Lib.hid (HI.out.keep HB1.out)
  have HC := Lib.hid (show ∀ W, Below w1.heap.size w1 W → W.cell? ⟨cb, 0, none⟩ = some (.pointer (some ⟨p, 0, none⟩)) ∧ W.cell? ⟨B1, 0, none⟩ = some (.int .i64 v.id) from fun W hb => by
    have q := (hb.block _ (heap_lt HX1.out)).trans HX1.out
    refine ⟨((HI1.out.keep hb).cells rfl).1, ?_⟩
    rw [cell_of_row _ _ _ _ _ _ q]; rfl)
  clear hB1
  go_cut [4, 5] from 7 to 17 (fun a4 a5 wx => ∃ B5 : Nat, a4 = .pointer (some ⟨B5, 0, none⟩) ∧ a5 = .int .i64 er ∧ wx.heap[B5]? = some (.cells (nodeA n) 36 (0, 0)) ∧ Below w1.heap.size w1 wx)
  case first =>
-- TILL 1
    refine B.Till.region (z := 12) (S := fun w' => Below w1.heap.size w1 w') (by kernel_rfl) ((Below.refl _ _).drew) (fun hHeld => ?_)
    refine B.Till.take (i := 0) (oi := ⟨some 8, .move (.tmp 0), 98, "usage.go:99", #[], none⟩) (v := .pointer (some ⟨cb, 0, none⟩)) rfl (by kernel_rfl) (by kernel_rfl) (by kernel_rfl) (by kernel_rfl) (fun _ _ _ h => h) (Or.inl ⟨by rfl, fun w0 hS0 => ?_⟩) (by assumption) ?_
    · go_simp
    try simp only [Act.put, lt, l0, ls]
    refine B.Till.take (i := 1) (oi := ⟨some 9, .nilCheck (.tmp 8), 0, "usage.go:99", #[⟨0, .data⟩], none⟩) (v := .pointer (some ⟨cb, 0, none⟩)) rfl (by kernel_rfl) (by kernel_rfl) (by kernel_rfl) (by kernel_rfl) (fun _ _ _ h => h) (Or.inl ⟨by rfl, fun w0 hS0 => ?_⟩) (by assumption) ?_
    · go_simp
    try simp only [Act.put, lt, l0, ls]
    refine B.Till.take (i := 2) (oi := ⟨some 10, .fieldAddr 78 (.tmp 9) 0, 0, "usage.go:99", #[⟨1, .data⟩], none⟩) (v := .pointer (some ⟨cb, 0, none⟩)) rfl (by kernel_rfl) (by kernel_rfl) (by kernel_rfl) (by kernel_rfl) (fun _ _ _ h => h) (Or.inl ⟨by rfl, fun w0 hS0 => ?_⟩) (by assumption) ?_
    · go_simp
    try simp only [Act.put, lt, l0, ls]
    refine B.Till.take (i := 3) (oi := ⟨some 11, .load 25 (.tmp 10), 25, "usage.go:99", #[⟨2, .data⟩], none⟩) (v := .pointer (some ⟨p, 0, none⟩)) rfl (by kernel_rfl) (by kernel_rfl) (by kernel_rfl) (by kernel_rfl) (fun _ _ _ h => h) (Or.inl ⟨by rfl, fun w0 hS0 => ?_⟩) (by assumption) ?_
    · have c0 := (HC.out _ hS0).1; go_simp
    try simp only [Act.put, lt, l0, ls]
    refine B.Till.take (i := 4) (oi := ⟨some 12, .fieldAddr 82 (.tmp 3) 0, 0, "usage.go:99", #[], none⟩) (v := .pointer (some ⟨B1, 0, none⟩)) rfl (by kernel_rfl) (by kernel_rfl) (by kernel_rfl) (by kernel_rfl) (fun _ _ _ h => h) (Or.inl ⟨by rfl, fun w0 hS0 => ?_⟩) (by assumption) ?_
    · go_simp
    try simp only [Act.put, lt, l0, ls]
    refine B.Till.take (i := 5) (oi := ⟨some 13, .load 3 (.tmp 12), 3, "usage.go:99", #[⟨4, .data⟩], none⟩) (v := .int .i64 v.id) rfl (by kernel_rfl) (by kernel_rfl) (by kernel_rfl) (by kernel_rfl) (fun _ _ _ h => h) (Or.inl ⟨by rfl, fun w0 hS0 => ?_⟩) (by assumption) ?_
    · have c0 := (HC.out _ hS0).2; go_simp
    try simp only [Act.put, lt, l0, ls]
    refine B.Till.two (i := 6) (j := 10) (o := ⟨some 14, .call ⟨.value (.func 7), #[.tmp 11, .tmp 13], #[25, 3]⟩, 38, "usage.go:99", #[⟨3, .data⟩, ⟨5, .data⟩], none⟩) (o' := ⟨some 4, .alloc 36, 0, "usage.go:99", #[], none⟩) (by kernel_rfl) rfl rfl (fun K hK => ?_) (fun K hK => ?_)
    · go_simp
      refine (HN.out _ (HB1.out.trans (hHeld.mono HB1.out.size))).mono ?_
      rintro e w6 ⟨rfl, hb6⟩
      have hH6 : Below w1.heap.size w1 w6 := hHeld.trans (hb6.mono hHeld.size)
      go_wp2_with fail
      refine hK.out _ _ (fun _ => hH6) ?_
      clear hK K
      try simp only [Act.put, lt, l0, ls]
      refine B.Till.take (i := 7) (oi := ⟨some 7, .move (.tmp 14), 38, "usage.go:99", #[⟨6, .data⟩], none⟩) (v := .tuple #[P.nodeV n, .int .i64 er]) rfl (by kernel_rfl) (by kernel_rfl) (by kernel_rfl) (by kernel_rfl) (fun _ _ _ h => h) (Or.inl ⟨by rfl, fun w0 hS0 => ?_⟩) (by assumption) ?_
      · go_simp
      try simp only [Act.put, lt, l0, ls]
      refine B.Till.take (i := 8) (oi := ⟨some 15, .extract (.tmp 7) 0, 36, "usage.go:99", #[⟨7, .data⟩], none⟩) (v := P.nodeV n) rfl (by kernel_rfl) (by kernel_rfl) (by kernel_rfl) (by kernel_rfl) (fun _ _ _ h => h) (Or.inl ⟨by rfl, fun w0 hS0 => ?_⟩) (by assumption) ?_
      · go_simp
      try simp only [Act.put, lt, l0, ls]
      refine B.Till.take (i := 9) (oi := ⟨some 16, .extract (.tmp 7) 1, 37, "usage.go:99", #[⟨7, .data⟩, ⟨11, .gcOnly .lateStores⟩], none⟩) (v := .int .i64 er) rfl (by kernel_rfl) (by kernel_rfl) (by kernel_rfl) (by kernel_rfl) (fun _ _ _ h => h) (Or.inl ⟨by rfl, fun w0 hS0 => ?_⟩) (by assumption) ?_
      · go_simp
      try simp only [Act.put, lt, l0, ls]
      refine B.Till.next (i := 10) (o := ⟨some 4, .alloc 36, 0, "usage.go:99", #[], none⟩) (by kernel_rfl) rfl (fun K hK => ?_)
      go_simp
      refine hK.out _ _ (fun _ => hH6.alloc hH6.size _) ?_
      clear hK K
      try simp only [Act.put, lt, l0, ls]
      have hH7 := hH6.alloc hH6.size (.cells #[.int .i64 0, .int .i64 0, .int .i64 0, .int .i64 0, .int .i64 0, .int .i64 0, .int .i64 0, .int .i64 0, .int .i64 0, .int .i64 0, .int .i64 0, .int .i64 0, .string ⟨#[]⟩] 36)
      refine B.Till.next (i := 11) (o := ⟨none, .store 36 (.tmp 4) (.tmp 15), 0, "usage.go:99", #[⟨10, .data⟩, ⟨8, .data⟩, ⟨6, .chain⟩, ⟨0, .phase⟩, ⟨1, .phase⟩, ⟨2, .phase⟩, ⟨3, .phase⟩, ⟨4, .phase⟩, ⟨5, .phase⟩, ⟨6, .phase⟩, ⟨7, .phase⟩, ⟨8, .phase⟩, ⟨9, .textOnly .lateStores⟩, ⟨10, .phase⟩], none⟩) (by kernel_rfl) rfl (fun K hK => ?_)
      refine step_store_own rfl 36 (.tmp 4) (.tmp 15) rfl w6.heap.size (nodeA n) rfl rfl 36 _ (heap_alloc_new _ _) sizeN rfl (nodeA_one n) ?_
      refine hK.out _ _ (fun _ => (below_setR hH7 hH6.size _)) ?_
      clear hK K
      try simp only [Act.put, lt, l0, ls]
      refine B.Till.next (i := 12) (o := ⟨some 5, .assign (.tmp 16), 37, "usage.go:99", #[⟨9, .data⟩, ⟨11, .chain⟩, ⟨0, .phase⟩, ⟨1, .phase⟩, ⟨2, .phase⟩, ⟨3, .phase⟩, ⟨4, .phase⟩, ⟨5, .phase⟩, ⟨6, .phase⟩, ⟨7, .phase⟩, ⟨8, .phase⟩, ⟨9, .phase⟩, ⟨10, .phase⟩, ⟨11, .phase⟩], none⟩) (by kernel_rfl) rfl (fun K hK => ?_)
      go_simp
      refine hK.out _ _ (fun q => absurd rfl q) ?_
      clear hK K
      try simp only [Act.put, lt, l0, ls]
      refine B.Till.done (by kernel_rfl) ?_
      go_wp2_with fail
      go_meet
      exact ⟨w6.heap.size, rfl, rfl, setRow_heap _ _ _ _ _ _ (heap_alloc_new _ _), (below_setR hH7 hH6.size _)⟩
    · go_simp
      refine hK.out _ _ (fun _ => hHeld.alloc hHeld.size _) ?_
      clear hK K
      try simp only [Act.put, lt, l0, ls]
      have hH7 := hHeld.alloc hHeld.size (.cells #[.int .i64 0, .int .i64 0, .int .i64 0, .int .i64 0, .int .i64 0, .int .i64 0, .int .i64 0, .int .i64 0, .int .i64 0, .int .i64 0, .int .i64 0, .int .i64 0, .string ⟨#[]⟩] 36)
      have HX7 := heap_alloc_new w1.drew (.cells #[.int .i64 0, .int .i64 0, .int .i64 0, .int .i64 0, .int .i64 0, .int .i64 0, .int .i64 0, .int .i64 0, .int .i64 0, .int .i64 0, .int .i64 0, .int .i64 0, .string ⟨#[]⟩] 36)
      refine B.Till.next (i := 6) (o := ⟨some 14, .call ⟨.value (.func 7), #[.tmp 11, .tmp 13], #[25, 3]⟩, 38, "usage.go:99", #[⟨3, .data⟩, ⟨5, .data⟩], none⟩) (by kernel_rfl) rfl (fun K hK => ?_)
      go_simp
      refine (HN.out _ (HB1.out.trans (hH7.mono HB1.out.size))).mono ?_
      rintro e w6 ⟨rfl, hb6⟩
      have hH6 : Below w1.heap.size w1 w6 := hH7.trans (hb6.mono hH7.size)
      have HX6 := (hb6.block _ (heap_lt HX7)).trans HX7
      go_wp2_with fail
      refine hK.out _ _ (fun _ => hH6) ?_
      clear hK K
      try simp only [Act.put, lt, l0, ls]
      refine B.Till.take (i := 7) (oi := ⟨some 7, .move (.tmp 14), 38, "usage.go:99", #[⟨6, .data⟩], none⟩) (v := .tuple #[P.nodeV n, .int .i64 er]) rfl (by kernel_rfl) (by kernel_rfl) (by kernel_rfl) (by kernel_rfl) (fun _ _ _ h => h) (Or.inl ⟨by rfl, fun w0 hS0 => ?_⟩) (by assumption) ?_
      · go_simp
      try simp only [Act.put, lt, l0, ls]
      refine B.Till.take (i := 8) (oi := ⟨some 15, .extract (.tmp 7) 0, 36, "usage.go:99", #[⟨7, .data⟩], none⟩) (v := P.nodeV n) rfl (by kernel_rfl) (by kernel_rfl) (by kernel_rfl) (by kernel_rfl) (fun _ _ _ h => h) (Or.inl ⟨by rfl, fun w0 hS0 => ?_⟩) (by assumption) ?_
      · go_simp
      try simp only [Act.put, lt, l0, ls]
      refine B.Till.take (i := 9) (oi := ⟨some 16, .extract (.tmp 7) 1, 37, "usage.go:99", #[⟨7, .data⟩, ⟨11, .gcOnly .lateStores⟩], none⟩) (v := .int .i64 er) rfl (by kernel_rfl) (by kernel_rfl) (by kernel_rfl) (by kernel_rfl) (fun _ _ _ h => h) (Or.inl ⟨by rfl, fun w0 hS0 => ?_⟩) (by assumption) ?_
      · go_simp
      try simp only [Act.put, lt, l0, ls]
      refine B.Till.next (i := 11) (o := ⟨none, .store 36 (.tmp 4) (.tmp 15), 0, "usage.go:99", #[⟨10, .data⟩, ⟨8, .data⟩, ⟨6, .chain⟩, ⟨0, .phase⟩, ⟨1, .phase⟩, ⟨2, .phase⟩, ⟨3, .phase⟩, ⟨4, .phase⟩, ⟨5, .phase⟩, ⟨6, .phase⟩, ⟨7, .phase⟩, ⟨8, .phase⟩, ⟨9, .textOnly .lateStores⟩, ⟨10, .phase⟩], none⟩) (by kernel_rfl) rfl (fun K hK => ?_)
      refine step_store_own rfl 36 (.tmp 4) (.tmp 15) rfl w1.heap.size (nodeA n) rfl rfl 36 _ HX6 sizeN rfl (nodeA_one n) ?_
      refine hK.out _ _ (fun _ => (below_setR hH6 (Nat.le_refl _) _)) ?_
      clear hK K
      try simp only [Act.put, lt, l0, ls]
      refine B.Till.next (i := 12) (o := ⟨some 5, .assign (.tmp 16), 37, "usage.go:99", #[⟨9, .data⟩, ⟨11, .chain⟩, ⟨0, .phase⟩, ⟨1, .phase⟩, ⟨2, .phase⟩, ⟨3, .phase⟩, ⟨4, .phase⟩, ⟨5, .phase⟩, ⟨6, .phase⟩, ⟨7, .phase⟩, ⟨8, .phase⟩, ⟨9, .phase⟩, ⟨10, .phase⟩, ⟨11, .phase⟩], none⟩) (by kernel_rfl) rfl (fun K hK => ?_)
      go_simp
      refine hK.out _ _ (fun q => absurd rfl q) ?_
      clear hK K
      try simp only [Act.put, lt, l0, ls]
      refine B.Till.done (by kernel_rfl) ?_
      go_wp2_with fail
      go_meet
      exact ⟨w1.heap.size, rfl, rfl, setRow_heap _ _ _ _ _ _ HX6, (below_setR hH6 (Nat.le_refl _) _)⟩
-- TILL 1 END
  case rest =>
    obtain ⟨B5, rfl, rfl, hx5, hb5⟩ := hcut
    have HX5 := Lib.hid hx5
    have HI5 := Lib.hid (HI1.out.keep hb5)
    have HK5 := Lib.hid ((Kt.of_below HB1.out).trans (Kt.of_below hb5))
    have HXv := Lib.hid ((hb5.block _ (heap_lt HX1.out)).trans HX1.out)
    clear hx5 hb5 HC HX1 HB1 HN HI HI1
    have v1 : wc.cell? ⟨B1, 1, none⟩ = some (.int .i64 (d : Int)) := by rw [cell_of_row _ _ _ _ _ _ HXv.out]; rfl
    have v5 : wc.cell? ⟨B1, 5, none⟩ = some (.bool v.over) := by rw [cell_of_row _ _ _ _ _ _ HXv.out]; rfl
    have v6 : wc.cell? ⟨B1, 6, none⟩ = some (.int .i64 v.err) := by rw [cell_of_row _ _ _ _ _ _ HXv.out]; rfl
    have HMe := Lib.hid (meet_any d n HI5.out hd hK h1 h2 h3 h4)
    unfold P.nodeV at HMe
    obtain ⟨bb, hbb⟩ : ∃ bb, (!v.over && (v.err == 0)) = bb := ⟨_, rfl⟩
    have HBB := Lib.hid hbb
    clear hbb
    go_upto_region 2 with fail
    go_cut [24] from 17 to 25 (fun a24 wx => a24 = .bool bb ∧ Hid (wx = wc))
    case first =>
      by_cases ho : v.over = true
      · have v5' : wc.cell? ⟨B1, 5, none⟩ = some (.bool true) := by rw [v5, ho]
        clear v5
        go_wp2_with fail
        go_meet
        exact ⟨by rw [← HBB.out, ho]; rfl, Lib.hid rfl⟩
      · have ho : v.over = false := by simpa using ho
        have v5' : wc.cell? ⟨B1, 5, none⟩ = some (.bool false) := by rw [v5, ho]
        clear v5
        by_cases he : v.err = 0
        · have e0 : (v.err == 0) = true := by simp [he]
          go_wp2_with fail
          go_meet
          exact ⟨by rw [← HBB.out, ho, e0]; rfl, Lib.hid rfl⟩
        · have e0 : (v.err == 0) = false := by simp [he]
          go_wp2_with fail
          go_meet
          exact ⟨by rw [← HBB.out, ho, e0]; rfl, Lib.hid rfl⟩
    case rest =>
    obtain ⟨rfl, HW⟩ := hcut
    obtain rfl := HW.out
    clear HW
    have HZ1 := Lib.hid (show bb = true → v.over = false ∧ v.err = 0 from fun q => by
      have z := HBB.out
      rw [q] at z
      simpa using z)
    have HZ2 := Lib.hid (show bb = false → ¬ (v.over = false ∧ v.err = 0) from fun q x => by
      have z := HBB.out
      rw [q, x.1, x.2] at z
      exact absurd z (by decide))
    have HFr := Lib.hid (show ∀ W, Kt wc W → W.heap[B1]? = some (.cells #[.int .i64 v.id, .int .i64 (d : Int), .string v.name, .string v.base, .bool v.last, .bool v.over, .int .i64 v.err] 82 (0, 0)) ∧ W.heap[B5]? = some (.cells (nodeA n) 36 (0, 0)) ∧ Kt w W from fun W hk => ⟨hk.2 _ _ _ _ HXv.out (by decide) (by decide), hk.2 _ _ _ _ HX5.out (by decide) (by decide), HK5.out.trans hk⟩)
    clear HBB
    go_upto_if 24 with fail
    go_cut [5] from 25 to 30 (fun a5 wx => a5 = .int .i64 er ∧ ∃ K' wh', TakeZ H K wh v n K' wh' ∧ Cnt W0 cb mb p H K' wh' ln lv wx ∧ Kt wc wx)
    case first =>
      cases bb with
      | false =>
        go_wp2_with fail
        go_meet
        exact ⟨rfl, K, wh, ⟨fun q => absurd q (HZ2.out (by simp)), fun _ => ⟨rfl, rfl⟩⟩, HI5.out, Kt.refl _⟩
      | true =>
        go_wp2_with (refine wpList_load_mid rfl 36 (.tmp 4) rfl B5 0 rfl (nodeL n) _ (row_range HX5.out) Tryz.underlying36 rfl sizeN ?_)
        refine HMe.out.mono ?_
        rintro e wm ⟨rfl, wh', hz, hc, hk⟩
        go_wp2_with fail
        go_meet
        exact ⟨rfl, _, wh', ⟨fun _ => ⟨rfl, hz⟩, fun q => absurd (HZ1.out (by simp)) q⟩, hc, hk⟩
    case rest =>
    obtain ⟨rfl, K', wh', htz, hc6, hk6⟩ := hcut
    obtain ⟨hv6, hn6, hk6'⟩ := HFr.out _ hk6
    clear HFr HX5 HI5 HK5 HXv v1 v5 v6 HMe HZ1 HZ2
    have HI6 := Lib.hid hc6
    have HTz := Lib.hid htz
    have HXv := Lib.hid hv6
    have HXn := Lib.hid hn6
    have HK6 := Lib.hid hk6'
    clear hv6 hn6 hk6' htz hc6 hk6
    have HCc := Lib.hid (fun W hW => HI6.out.cells (W := W) hW)
    have HVc := Lib.hid (show ∀ W : World, W.heap[B1]? = wc.heap[B1]? → W.cell? ⟨B1, 1, none⟩ = some (.int .i64 (d : Int)) ∧ W.cell? ⟨B1, 2, none⟩ = some (.string v.name) ∧ W.cell? ⟨B1, 6, none⟩ = some (.int .i64 v.err) from fun W hW => by
      have q := hW.trans HXv.out
      refine ⟨?_, ?_, ?_⟩ <;> (rw [cell_of_row _ _ _ _ _ _ q]; rfl))
    obtain ⟨x, y, hx0, hxb, hy0⟩ := (HI6.out.cells rfl).2.2.2.2.2.2.2.2.2 d hd
    have HRg := Lib.hid (show ∀ W : World, W.heap[cb]? = wc.heap[cb]? → W.rangeAt cb (6 + d * 2) [.int .i64 x, .bool y] from fun W hW j u hu => by
      have e : ∀ o, W.cell? ⟨cb, o, none⟩ = wc.cell? ⟨cb, o, none⟩ := fun o => by unfold World.cell?; dsimp only; rw [hW]
      match j, hu with
      | 0, hu => obtain rfl := Option.some.inj hu; exact (e _).trans hx0
      | 1, hu => obtain rfl := Option.some.inj hu; exact (e _).trans hy0)
    have HXb := Lib.hid hxb
    have HLc := Lib.hid HI6.out.lt
    have HLk := Lib.hid (heap_lt HXv.out)
    clear hx0 hy0 hxb
    go_upto_region 4 with fail
-- TILL 2
    refine B.Till.region (z := 1000) (S := fun w' => w'.heap[cb]? = wc.heap[cb]? ∧ w'.heap[B1]? = wc.heap[B1]?) (by kernel_rfl) ⟨rfl, rfl⟩ (fun hHeld => ?_)
    refine B.Till.takeA (i := 0) (oi := ⟨some 30, .move (.tmp 0), 98, "usage.go:103", #[], none⟩) (v := .pointer (some ⟨cb, 0, none⟩)) rfl (by kernel_rfl) (by kernel_rfl) (by kernel_rfl) (by kernel_rfl) (fun _ _ _ h => h) (Or.inl ⟨by rfl, fun w0 hS0 => ?_⟩) (by assumption) ?_
    · go_simp
    try simp only [Act.put, lt, l0, ls]
    refine B.Till.takeA (i := 1) (oi := ⟨some 31, .fieldAddr 82 (.tmp 3) 1, 0, "usage.go:103", #[], none⟩) (v := .pointer (some ⟨B1, 1, none⟩)) rfl (by kernel_rfl) (by kernel_rfl) (by kernel_rfl) (by kernel_rfl) (fun _ _ _ h => h) (Or.inl ⟨by rfl, fun w0 hS0 => ?_⟩) (by assumption) ?_
    · go_simp
    try simp only [Act.put, lt, l0, ls]
    refine B.Till.takeA (i := 2) (oi := ⟨some 32, .load 3 (.tmp 31), 3, "usage.go:103", #[⟨1, .data⟩], none⟩) (v := .int .i64 (d : Int)) rfl (by kernel_rfl) (by kernel_rfl) (by kernel_rfl) (by kernel_rfl) (fun _ _ _ h => h) (Or.inl ⟨by rfl, fun w0 hS0 => ?_⟩) (by assumption) ?_
    · have q1 := (HVc.out _ hS0.2).1; go_simp
    try simp only [Act.put, lt, l0, ls]
    refine B.Till.takeA (i := 3) (oi := ⟨some 33, .nilCheck (.tmp 30), 0, "usage.go:103", #[⟨0, .data⟩], none⟩) (v := .pointer (some ⟨cb, 0, none⟩)) rfl (by kernel_rfl) (by kernel_rfl) (by kernel_rfl) (by kernel_rfl) (fun _ _ _ h => h) (Or.inl ⟨by rfl, fun w0 hS0 => ?_⟩) (by assumption) ?_
    · go_simp
    try simp only [Act.put, lt, l0, ls]
    refine B.Till.takeA (i := 4) (oi := ⟨some 34, .fieldAddr 78 (.tmp 33) 3, 0, "usage.go:103", #[⟨3, .data⟩], none⟩) (v := .pointer (some ⟨cb, 6, none⟩)) rfl (by kernel_rfl) (by kernel_rfl) (by kernel_rfl) (by kernel_rfl) (fun _ _ _ h => h) (Or.inl ⟨by rfl, fun w0 hS0 => ?_⟩) (by assumption) ?_
    · go_simp
    try simp only [Act.put, lt, l0, ls]
    refine B.Till.takeA (i := 5) (oi := ⟨some 35, .indexAddr 76 (.tmp 34) (.tmp 32), 0, "usage.go:103", #[⟨4, .data⟩, ⟨2, .data⟩], none⟩) (v := .pointer (some ⟨cb, 6 + d * 2, none⟩)) rfl (by kernel_rfl) (by kernel_rfl) (by kernel_rfl) (by kernel_rfl) (fun _ _ _ h => h) (Or.inl ⟨by rfl, fun w0 hS0 => exec_arr (.tmp 34) (.tmp 32) rfl cb 6 d hd rfl rfl⟩) (by assumption) ?_
    try simp only [Act.put, lt, l0, ls]
    refine B.Till.takeA (i := 6) (oi := ⟨some 36, .load 75 (.tmp 35), 75, "usage.go:103", #[⟨5, .data⟩], none⟩) (v := .agg #[.int .i64 x, .bool y]) rfl (by kernel_rfl) (by kernel_rfl) (by kernel_rfl) (by kernel_rfl) (fun _ _ _ h => h) (yieldsIf_load_mid (by rfl) 75 (.tmp 35) rfl cb (6 + d * 2) rfl [.int .i64 x, .bool y] _ (fun w0 hS0 => HRg.out _ hS0.1) Tryz.underlying75 rfl sizeO) (by assumption) ?_
    try simp only [Act.put, lt, l0, ls]
    refine B.Till.next (i := 7) (o := ⟨some 6, .alloc 75, 0, "usage.go:103", #[], none⟩) (by kernel_rfl) rfl (fun K hK => ?_)
    go_simp
    refine hK.out _ _ (fun _ => ⟨(heap_alloc_old _ _ HLc.out).trans hHeld.1, (heap_alloc_old _ _ HLk.out).trans hHeld.2⟩) ?_
    clear hK K
    try simp only [Act.put, lt, l0, ls]
    refine B.Till.next (i := 8) (o := ⟨none, .store 75 (.tmp 6) (.tmp 36), 0, "usage.go:103", #[⟨7, .data⟩, ⟨6, .data⟩, ⟨0, .phase⟩, ⟨1, .phase⟩, ⟨2, .phase⟩, ⟨3, .phase⟩, ⟨4, .phase⟩, ⟨5, .phase⟩, ⟨6, .phase⟩, ⟨7, .phase⟩], none⟩) (by kernel_rfl) rfl (fun K hK => ?_)
    refine step_store_own rfl 75 (.tmp 6) (.tmp 36) rfl wc.drew.heap.size #[.int .i64 x, .bool y] rfl rfl 75 #[.int .i64 0, .bool false] (heap_alloc_new _ _) sizeO rfl (openA_one x y) ?_
    rw [drew_rows]
    refine hK.out _ _ (fun _ => ⟨(heap_alloc_old _ _ HLc.out).trans hHeld.1, (heap_alloc_old _ _ HLk.out).trans hHeld.2⟩) ?_
    clear hK K
    try simp only [Act.put, lt, l0, ls]
    refine B.Till.done (by kernel_rfl) ?_
-- TILL 2 END
    obtain ⟨i0, hi0, hz0, hz1, hz2⟩ := info_ln
    have HB7 := Lib.hid (show Below wc.heap.size wc (wc.alloc (.cells #[.int .i64 x, .bool y] 75)).drew from ((Below.refl _ _).alloc (Nat.le_refl _) _).drew)
    have HX6 := Lib.hid (show (wc.alloc (.cells #[.int .i64 x, .bool y] 75)).drew.heap[wc.heap.size]? = some (.cells #[.int .i64 x, .bool y] 75 (0, 0)) from heap_alloc_new _ _)
    generalize (wc.alloc (.cells #[.int .i64 x, .bool y] 75)).drew = w7 at HB7 HX6 ⊢
    have HXv7 := Lib.hid ((HB7.out.block _ HLk.out).trans HXv.out)
    have HXn7 := Lib.hid ((HB7.out.block _ (heap_lt HXn.out)).trans HXn.out)
    have HI7 := Lib.hid (HI6.out.keep HB7.out)
    have HK7 := Lib.hid (HK6.out.trans (Kt.of_below HB7.out))
    clear HXv HXn HI6 HK6 HCc HVc HRg HLc HLk HB7 hHeld
    obtain ⟨B6, hB6⟩ : ∃ B6, wc.heap.size = B6 := ⟨_, rfl⟩
    rw [hB6] at HX6 ⊢
    clear hB6
    have y7 : w7.cell? ⟨B6, 1, none⟩ = some (.bool y) := by rw [cell_of_row _ _ _ _ _ _ HX6.out]; rfl
    have v6 : w7.cell? ⟨B1, 6, none⟩ = some (.int .i64 v.err) := by rw [cell_of_row _ _ _ _ _ _ HXv7.out]; rfl
    by_cases hy : y = true
    · have y7' : w7.cell? ⟨B6, 1, none⟩ = some (.bool true) := by rw [y7, hy]
      clear y7
      go_wp2_with fail
      go_end0
      exact ⟨rfl, K', wh', ln, lv, HTz.out, by omega, HI7.out, HK7.out⟩
    have y7' : w7.cell? ⟨B6, 1, none⟩ = some (.bool false) := by rw [y7]; simpa using hy
    clear y7
    have HF7 := Lib.hid (show ∀ W, Kt w7 W → W.heap[B1]? = some (.cells #[.int .i64 v.id, .int .i64 (d : Int), .string v.name, .string v.base, .bool v.last, .bool v.over, .int .i64 v.err] 82 (0, 0)) ∧ W.heap[B5]? = some (.cells (nodeA n) 36 (0, 0)) ∧ W.heap[B6]? = some (.cells #[.int .i64 x, .bool y] 75 (0, 0)) ∧ Kt w W from fun W hk => ⟨hk.2 _ _ _ _ HXv7.out (by decide) (by decide), hk.2 _ _ _ _ HXn7.out (by decide) (by decide), hk.2 _ _ _ _ HX6.out (by decide) (by decide), HK7.out.trans hk⟩)
    go_upto_if 41 with fail
    go_cut [5] from 30 to 56 (fun a5 wx => a5 = .int .i64 er ∧ ∃ ln' lv', ln' ≤ ln + 1 ∧ Cnt W0 cb mb p H K' wh' ln' lv' wx ∧ Kt w7 wx)
    case first =>
      by_cases he : v.err = 0
      · have e0 : (v.err != 0) = false := by simp [he]
        go_wp2_with fail
        go_meet
        exact ⟨rfl, ln, lv, by omega, HI7.out, Kt.refl _⟩
      · have e0 : (v.err != 0) = true := by simp [he]
        have HCc := Lib.hid (fun W hW => HI7.out.cells (W := W) hW)
        have HVc := Lib.hid (show ∀ W : World, W.heap[B1]? = w7.heap[B1]? → W.cell? ⟨B1, 1, none⟩ = some (.int .i64 (d : Int)) ∧ W.cell? ⟨B1, 2, none⟩ = some (.string v.name) ∧ W.cell? ⟨B1, 6, none⟩ = some (.int .i64 v.err) from fun W hW => by
          have q := hW.trans HXv7.out
          refine ⟨?_, ?_, ?_⟩ <;> (rw [cell_of_row _ _ _ _ _ _ q]; rfl))
        have HX6c := Lib.hid (show ∀ W : World, W.heap[B6]? = w7.heap[B6]? → W.cell? ⟨B6, 0, none⟩ = some (.int .i64 x) from fun W hW => by rw [cell_of_row _ _ _ _ _ _ (hW.trans HX6.out)]; rfl)
        have HLc := Lib.hid HI7.out.lt
        have HLk := Lib.hid (heap_lt HXv7.out)
        have HL6 := Lib.hid (heap_lt HX6.out)
        have HNc := Lib.hid (show some cb ≠ lv.ownBlock from fun e => (HI7.out.l_ne e.symm).1 rfl)
        have HN1 := Lib.hid (show some B1 ≠ lv.ownBlock from fun e => by
          obtain ⟨xs, hxs⟩ := HI7.out.lines
          obtain ⟨cur, hc⟩ := owns_type hxs e.symm
          rw [HXv7.out] at hc
          simp at hc)
        have HN6 := Lib.hid (show some B6 ≠ lv.ownBlock from fun e => by
          obtain ⟨xs, hxs⟩ := HI7.out.lines
          obtain ⟨cur, hc⟩ := owns_type hxs e.symm
          rw [HX6.out] at hc
          simp at hc)
        have HAl := Lib.hid (show ∀ (k : Nat), k < w7.heap.size → k < (w7.drew.alloc (.cells (lnC 0 v.name v.err).toArray 101)).heap.size from fun k hk => by simp; omega)
        have HW3 := Lib.hid (HI7.out.keep (show Below w7.heap.size w7 (w7.drew.alloc (.cells (lnC 0 v.name v.err).toArray 101)) from ((Below.refl _ _).drew).alloc (Nat.le_refl _) _))
        have HG3 := Lib.hid HW3.out.low.size
        obtain ⟨xs, hxs⟩ := HW3.out.lines
        have HO3 := Lib.hid hxs
        clear hxs
        go_upto_region 7 with fail
-- TILL 3
        refine B.Till.region (z := 14) (S := fun w' => w'.heap[cb]? = w7.heap[cb]? ∧ w'.heap[B1]? = w7.heap[B1]? ∧ w'.heap[B6]? = w7.heap[B6]?) (by kernel_rfl) ⟨rfl, rfl, rfl⟩ (fun hHeld => ?_)
        refine B.Till.take (i := 0) (oi := ⟨some 42, .move (.tmp 0), 98, "usage.go:108", #[], none⟩) (v := .pointer (some ⟨cb, 0, none⟩)) rfl (by kernel_rfl) (by kernel_rfl) (by kernel_rfl) (by kernel_rfl) (fun _ _ _ h => h) (Or.inl ⟨by rfl, fun w0 hS0 => ?_⟩) (by assumption) ?_
        · go_simp
        try simp only [Act.put, lt, l0, ls]
        refine B.Till.take (i := 1) (oi := ⟨some 43, .move (.tmp 0), 98, "usage.go:108", #[], none⟩) (v := .pointer (some ⟨cb, 0, none⟩)) rfl (by kernel_rfl) (by kernel_rfl) (by kernel_rfl) (by kernel_rfl) (fun _ _ _ h => h) (Or.inl ⟨by rfl, fun w0 hS0 => ?_⟩) (by assumption) ?_
        · go_simp
        try simp only [Act.put, lt, l0, ls]
        refine B.Till.take (i := 2) (oi := ⟨some 44, .nilCheck (.tmp 43), 0, "usage.go:108", #[⟨1, .data⟩], none⟩) (v := .pointer (some ⟨cb, 0, none⟩)) rfl (by kernel_rfl) (by kernel_rfl) (by kernel_rfl) (by kernel_rfl) (fun _ _ _ h => h) (Or.inl ⟨by rfl, fun w0 hS0 => ?_⟩) (by assumption) ?_
        · go_simp
        try simp only [Act.put, lt, l0, ls]
        refine B.Till.take (i := 3) (oi := ⟨some 45, .fieldAddr 78 (.tmp 44) 5, 0, "usage.go:108", #[⟨2, .data⟩], none⟩) (v := .pointer (some ⟨cb, 209, none⟩)) rfl (by kernel_rfl) (by kernel_rfl) (by kernel_rfl) (by kernel_rfl) (fun _ _ _ h => h) (Or.inl ⟨by rfl, fun w0 hS0 => ?_⟩) (by assumption) ?_
        · go_simp
        try simp only [Act.put, lt, l0, ls]
        refine B.Till.take (i := 4) (oi := ⟨some 46, .load 46 (.tmp 45), 46, "usage.go:108", #[⟨3, .data⟩], none⟩) (v := lv) rfl (by kernel_rfl) (by kernel_rfl) (by kernel_rfl) (by kernel_rfl) (fun _ _ _ h => h) (Or.inl ⟨by rfl, fun w0 hS0 => ?_⟩) (by assumption) ?_
        · have c209 := (HCc.out _ hS0.1).2.2.2.2.2.2.2.1; go_simp
        try simp only [Act.put, lt, l0, ls]
        refine B.Till.take (i := 5) (oi := ⟨some 47, .fieldAddr 82 (.tmp 3) 2, 0, "usage.go:108", #[], none⟩) (v := .pointer (some ⟨B1, 2, none⟩)) rfl (by kernel_rfl) (by kernel_rfl) (by kernel_rfl) (by kernel_rfl) (fun _ _ _ h => h) (Or.inl ⟨by rfl, fun w0 hS0 => ?_⟩) (by assumption) ?_
        · go_simp
        try simp only [Act.put, lt, l0, ls]
        refine B.Till.take (i := 6) (oi := ⟨some 48, .load 9 (.tmp 47), 9, "usage.go:108", #[⟨5, .data⟩], none⟩) (v := .string v.name) rfl (by kernel_rfl) (by kernel_rfl) (by kernel_rfl) (by kernel_rfl) (fun _ _ _ h => h) (Or.inl ⟨by rfl, fun w0 hS0 => ?_⟩) (by assumption) ?_
        · have q2 := (HVc.out _ hS0.2.1).2.1; go_simp
        try simp only [Act.put, lt, l0, ls]
        refine B.Till.take (i := 7) (oi := ⟨some 49, .fieldAddr 82 (.tmp 3) 6, 0, "usage.go:108", #[], none⟩) (v := .pointer (some ⟨B1, 6, none⟩)) rfl (by kernel_rfl) (by kernel_rfl) (by kernel_rfl) (by kernel_rfl) (fun _ _ _ h => h) (Or.inl ⟨by rfl, fun w0 hS0 => ?_⟩) (by assumption) ?_
        · go_simp
        try simp only [Act.put, lt, l0, ls]
        refine B.Till.take (i := 8) (oi := ⟨some 50, .load 37 (.tmp 49), 37, "usage.go:108", #[⟨7, .data⟩], none⟩) (v := .int .i64 v.err) rfl (by kernel_rfl) (by kernel_rfl) (by kernel_rfl) (by kernel_rfl) (fun _ _ _ h => h) (Or.inl ⟨by rfl, fun w0 hS0 => ?_⟩) (by assumption) ?_
        · have q6 := (HVc.out _ hS0.2.1).2.2; go_simp
        try simp only [Act.put, lt, l0, ls]
        refine B.Till.take (i := 9) (oi := ⟨some 51, .build 101 #[(1, .tmp 48), (2, .tmp 50)], 101, "usage.go:108", #[⟨6, .data⟩, ⟨8, .data⟩], none⟩) (v := .agg #[.int .i64 0, .string v.name, .int .i64 v.err]) rfl (by kernel_rfl) (by kernel_rfl) (by kernel_rfl) (by kernel_rfl) (fun _ _ _ h => h) (Or.inl ⟨by rfl, fun w0 hS0 => ?_⟩) (by assumption) ?_
        · go_simp
        try simp only [Act.put, lt, l0, ls]
        refine B.Till.next (i := 10) (o := ⟨some 52, .buildSlice 46 1 #[(0, .tmp 51)], 46, "usage.go:108", #[⟨9, .data⟩], none⟩) (by kernel_rfl) rfl (fun K hK => ?_)
        go_simp
        refine hK.out _ _ (fun _ => ⟨(heap_alloc_old _ _ HLc.out).trans hHeld.1, (heap_alloc_old _ _ HLk.out).trans hHeld.2.1, (heap_alloc_old _ _ HL6.out).trans hHeld.2.2⟩) ?_
        clear hK K
        try simp only [Act.put, lt, l0, ls]
        refine B.Till.next (i := 11) (o := ⟨some 53, .call ⟨.builtin .append, #[.tmp 46, .tmp 52], #[46, 46]⟩, 46, "usage.go:108", #[⟨4, .data⟩, ⟨10, .data⟩], none⟩) (by kernel_rfl) rfl (fun K hK => ?_)
        refine step_append_lies _ rfl (.tmp 46) (.tmp 52) 46 rfl W0.heap.size 101 i0 _ 3 32 Tryz.underlying46 hi0 hz0 hz1 hz2 rfl (by decide) lv ln xs (by simp [Act.eval]) HO3.out ⟨w7.heap.size, 0, none⟩ 1 1 (lnC 0 v.name v.err) (by simp [Act.eval]) rfl (World.news_of_block (heap_alloc_new _ _)) (lnC_one _ _ _) (by decide) (by unfold maxLen; omega) (by omega) HG3.out _ rfl ?_
        intro g1 cap1 w4 hown hgrow hat hlt1
        have hS4 : w4.heap[cb]? = w7.heap[cb]? ∧ w4.heap[B1]? = w7.heap[B1]? ∧ w4.heap[B6]? = w7.heap[B6]? := ⟨(hgrow.block _ (HAl.out _ HLc.out) HNc.out).trans (heap_alloc_old _ _ HLc.out), (hgrow.block _ (HAl.out _ HLk.out) HN1.out).trans (heap_alloc_old _ _ HLk.out), (hgrow.block _ (HAl.out _ HL6.out) HN6.out).trans (heap_alloc_old _ _ HL6.out)⟩
        have HLn := Lib.hid (HW3.out.line (m := 1) hown hgrow)
        clear hown hgrow hat hlt1
        refine hK.out _ _ (fun _ => hS4) ?_
        clear hK K
        try simp only [Act.put, lt, l0, ls]
        refine B.Till.next (i := 12) (o := ⟨some 54, .nilCheck (.tmp 42), 0, "usage.go:108", #[⟨0, .data⟩, ⟨0, .phase⟩, ⟨1, .phase⟩, ⟨2, .phase⟩, ⟨3, .phase⟩, ⟨4, .phase⟩, ⟨5, .phase⟩, ⟨6, .phase⟩, ⟨7, .phase⟩, ⟨8, .phase⟩, ⟨9, .phase⟩, ⟨10, .phase⟩, ⟨11, .phase⟩], none⟩) (by kernel_rfl) rfl (fun K hK => ?_)
        go_simp
        refine hK.out _ _ (fun _ => hS4) ?_
        clear hK K
        try simp only [Act.put, lt, l0, ls]
        refine B.Till.next (i := 13) (o := ⟨some 55, .fieldAddr 78 (.tmp 54) 5, 0, "usage.go:108", #[⟨12, .data⟩, ⟨0, .phase⟩, ⟨1, .phase⟩, ⟨2, .phase⟩, ⟨3, .phase⟩, ⟨4, .phase⟩, ⟨5, .phase⟩, ⟨6, .phase⟩, ⟨7, .phase⟩, ⟨8, .phase⟩, ⟨9, .phase⟩, ⟨10, .phase⟩, ⟨11, .phase⟩], none⟩) (by kernel_rfl) rfl (fun K hK => ?_)
        go_simp
        refine hK.out _ _ (fun _ => hS4) ?_
        clear hK K
        try simp only [Act.put, lt, l0, ls]
        refine B.Till.next (i := 14) (o := ⟨none, .store 46 (.tmp 55) (.tmp 53), 0, "usage.go:108", #[⟨13, .data⟩, ⟨11, .data⟩, ⟨11, .chain⟩, ⟨0, .phase⟩, ⟨1, .phase⟩, ⟨2, .phase⟩, ⟨3, .phase⟩, ⟨4, .phase⟩, ⟨5, .phase⟩, ⟨6, .phase⟩, ⟨7, .phase⟩, ⟨8, .phase⟩, ⟨9, .phase⟩, ⟨10, .phase⟩, ⟨11, .phase⟩], none⟩) (by kernel_rfl) rfl (fun K hK => ?_)
        have cx := (HCc.out _ hS4.1).2.2.2.2.2.2.2.1
        have fx := (HCc.out _ hS4.1).2.2.2.2.2.2.2.2.1 209
        go_simp
        refine hK.out _ _ (fun q => absurd rfl q) ?_
        clear hK K
        try simp only [Act.put, lt, l0, ls]
        refine B.Till.done (by kernel_rfl) ?_
-- TILL 3 END
        go_wp2_with fail
        go_meet
        exact ⟨rfl, ln + 1, _, by omega, HLn.out.1, (Kt.of_below (((Below.refl _ _).drew).alloc (Nat.le_refl _) _)).trans HLn.out.2⟩
    case rest =>
    obtain ⟨rfl, ln8, lv8, hl8, hc8, hk8⟩ := hcut
    obtain ⟨hx1, hx5, hx6, hkw⟩ := HF7.out _ hk8
    have HTc := Lib.hid (HTo.out wc _ _ _ _ hc8)
    have HI7 := Lib.hid hc8
    have HK7 := Lib.hid hkw
    have HXv7 := Lib.hid hx1
    have HX6 := Lib.hid hx6
    have k2 : wc.cell? ⟨B5, 2, none⟩ = some (.int .i64 n.kind) := by rw [cell_of_row _ _ _ _ _ _ hx5]; rfl
    clear hx1 hx5 hx6 hkw hc8 hk8 HTo v6 y7' HF7
    go_wp2_with (refine wpList_load_mid rfl 82 (.tmp 3) rfl B1 0 rfl [.int .i64 v.id, .int .i64 (d : Int), .string v.name, .string v.base, .bool v.last, .bool v.over, .int .i64 v.err] _ (row_range HXv7.out) Tryz.underlying82 rfl sizeV ?_)
    refine (HTc.out n.kind).mono ?_
    rintro e w8 ⟨b, rfl, hb8⟩
    have HXv8 := Lib.hid ((hb8.block _ (heap_lt HXv7.out)).trans HXv7.out)
    have HX8 := Lib.hid ((hb8.block _ (heap_lt HX6.out)).trans HX6.out)
    have HI8 := Lib.hid (HI7.out.keep hb8)
    have HK8 := Lib.hid (HK7.out.trans (Kt.of_below hb8))
    clear hb8 HTc HI7 HK7 HXv7 HX6 k2
    cases b with
    | false =>
      go_wp2_with fail
      go_end0
      exact ⟨rfl, K', wh', ln8, lv8, HTz.out, by omega, HI8.out, HK8.out⟩
    | true =>
      have HCc := Lib.hid (fun W hW => HI8.out.cells (W := W) hW)
      have HVc := Lib.hid (show ∀ W : World, W.heap[B1]? = w8.heap[B1]? → W.cell? ⟨B1, 1, none⟩ = some (.int .i64 (d : Int)) ∧ W.cell? ⟨B1, 2, none⟩ = some (.string v.name) ∧ W.cell? ⟨B1, 6, none⟩ = some (.int .i64 v.err) from fun W hW => by
        have q := hW.trans HXv8.out
        refine ⟨?_, ?_, ?_⟩ <;> (rw [cell_of_row _ _ _ _ _ _ q]; rfl))
      have HX6c := Lib.hid (show ∀ W : World, W.heap[B6]? = w8.heap[B6]? → W.cell? ⟨B6, 0, none⟩ = some (.int .i64 x) from fun W hW => by rw [cell_of_row _ _ _ _ _ _ (hW.trans HX8.out)]; rfl)
      have HLc := Lib.hid HI8.out.lt
      have HLk := Lib.hid (heap_lt HXv8.out)
      have HL6 := Lib.hid (heap_lt HX8.out)
      have HNc := Lib.hid (show some cb ≠ lv8.ownBlock from fun e => (HI8.out.l_ne e.symm).1 rfl)
      have HN1 := Lib.hid (show some B1 ≠ lv8.ownBlock from fun e => by
        obtain ⟨xs, hxs⟩ := HI8.out.lines
        obtain ⟨cur, hc⟩ := owns_type hxs e.symm
        rw [HXv8.out] at hc
        simp at hc)
      have HN6 := Lib.hid (show some B6 ≠ lv8.ownBlock from fun e => by
        obtain ⟨xs, hxs⟩ := HI8.out.lines
        obtain ⟨cur, hc⟩ := owns_type hxs e.symm
        rw [HX8.out] at hc
        simp at hc)
      have HAl := Lib.hid (show ∀ (k : Nat), k < w8.heap.size → k < (w8.drew.alloc (.cells (lnC (unitsZ x H.unit) v.name 0).toArray 101)).heap.size from fun k hk => by simp; omega)
      have HW3 := Lib.hid (HI8.out.keep (show Below w8.heap.size w8 (w8.drew.alloc (.cells (lnC (unitsZ x H.unit) v.name 0).toArray 101)) from ((Below.refl _ _).drew).alloc (Nat.le_refl _) _))
      have HG3 := Lib.hid HW3.out.low.size
      obtain ⟨xs, hxs⟩ := HW3.out.lines
      have HO3 := Lib.hid hxs
      clear hxs
      have HI7d := Lib.hid (HI8.out.keep (show Below w8.heap.size w8 w8.drew from (Below.refl _ _).drew))
      go_upto_region 9 with fail
-- TILL 4
      refine B.Till.region (z := 16) (S := fun w' => w'.heap[cb]? = w8.heap[cb]? ∧ w'.heap[B1]? = w8.heap[B1]? ∧ w'.heap[B6]? = w8.heap[B6]?) (by kernel_rfl) ⟨rfl, rfl, rfl⟩ (fun hHeld => ?_)
      refine B.Till.take (i := 0) (oi := ⟨some 61, .move (.tmp 0), 98, "usage.go:111", #[], none⟩) (v := .pointer (some ⟨cb, 0, none⟩)) rfl (by kernel_rfl) (by kernel_rfl) (by kernel_rfl) (by kernel_rfl) (fun _ _ _ h => h) (Or.inl ⟨by rfl, fun w0 hS0 => ?_⟩) (by assumption) ?_
      · go_simp
      try simp only [Act.put, lt, l0, ls]
      refine B.Till.take (i := 1) (oi := ⟨some 62, .move (.tmp 0), 98, "usage.go:111", #[], none⟩) (v := .pointer (some ⟨cb, 0, none⟩)) rfl (by kernel_rfl) (by kernel_rfl) (by kernel_rfl) (by kernel_rfl) (fun _ _ _ h => h) (Or.inl ⟨by rfl, fun w0 hS0 => ?_⟩) (by assumption) ?_
      · go_simp
      try simp only [Act.put, lt, l0, ls]
      refine B.Till.take (i := 2) (oi := ⟨some 63, .nilCheck (.tmp 62), 0, "usage.go:111", #[⟨1, .data⟩], none⟩) (v := .pointer (some ⟨cb, 0, none⟩)) rfl (by kernel_rfl) (by kernel_rfl) (by kernel_rfl) (by kernel_rfl) (fun _ _ _ h => h) (Or.inl ⟨by rfl, fun w0 hS0 => ?_⟩) (by assumption) ?_
      · go_simp
      try simp only [Act.put, lt, l0, ls]
      refine B.Till.take (i := 3) (oi := ⟨some 64, .fieldAddr 78 (.tmp 63) 5, 0, "usage.go:111", #[⟨2, .data⟩], none⟩) (v := .pointer (some ⟨cb, 209, none⟩)) rfl (by kernel_rfl) (by kernel_rfl) (by kernel_rfl) (by kernel_rfl) (fun _ _ _ h => h) (Or.inl ⟨by rfl, fun w0 hS0 => ?_⟩) (by assumption) ?_
      · go_simp
      try simp only [Act.put, lt, l0, ls]
      refine B.Till.take (i := 4) (oi := ⟨some 65, .load 46 (.tmp 64), 46, "usage.go:111", #[⟨3, .data⟩], none⟩) (v := lv8) rfl (by kernel_rfl) (by kernel_rfl) (by kernel_rfl) (by kernel_rfl) (fun _ _ _ h => h) (Or.inl ⟨by rfl, fun w0 hS0 => ?_⟩) (by assumption) ?_
      · have c209 := (HCc.out _ hS0.1).2.2.2.2.2.2.2.1; go_simp
      try simp only [Act.put, lt, l0, ls]
      refine B.Till.take (i := 5) (oi := ⟨some 66, .move (.tmp 0), 98, "usage.go:111", #[], none⟩) (v := .pointer (some ⟨cb, 0, none⟩)) rfl (by kernel_rfl) (by kernel_rfl) (by kernel_rfl) (by kernel_rfl) (fun _ _ _ h => h) (Or.inl ⟨by rfl, fun w0 hS0 => ?_⟩) (by assumption) ?_
      · go_simp
      try simp only [Act.put, lt, l0, ls]
      refine B.Till.take (i := 6) (oi := ⟨some 67, .fieldAddr 75 (.tmp 6) 0, 0, "usage.go:111", #[], none⟩) (v := .pointer (some ⟨B6, 0, none⟩)) rfl (by kernel_rfl) (by kernel_rfl) (by kernel_rfl) (by kernel_rfl) (fun _ _ _ h => h) (Or.inl ⟨by rfl, fun w0 hS0 => ?_⟩) (by assumption) ?_
      · go_simp
      try simp only [Act.put, lt, l0, ls]
      refine B.Till.take (i := 7) (oi := ⟨some 68, .load 2 (.tmp 67), 2, "usage.go:111", #[⟨6, .data⟩], none⟩) (v := .int .i64 x) rfl (by kernel_rfl) (by kernel_rfl) (by kernel_rfl) (by kernel_rfl) (fun _ _ _ h => h) (Or.inl ⟨by rfl, fun w0 hS0 => ?_⟩) (by assumption) ?_
      · have q0 := HX6c.out _ hS0.2.2; go_simp
      try simp only [Act.put, lt, l0, ls]
      refine B.Till.take (i := 9) (oi := ⟨some 70, .fieldAddr 82 (.tmp 3) 2, 0, "usage.go:111", #[], none⟩) (v := .pointer (some ⟨B1, 2, none⟩)) rfl (by kernel_rfl) (by kernel_rfl) (by kernel_rfl) (by kernel_rfl) (fun _ _ _ h => h) (Or.inl ⟨by rfl, fun w0 hS0 => ?_⟩) (by assumption) ?_
      · go_simp
      try simp only [Act.put, lt, l0, ls]
      refine B.Till.take (i := 10) (oi := ⟨some 71, .load 9 (.tmp 70), 9, "usage.go:111", #[⟨9, .data⟩], none⟩) (v := .string v.name) rfl (by kernel_rfl) (by kernel_rfl) (by kernel_rfl) (by kernel_rfl) (fun _ _ _ h => h) (Or.inl ⟨by rfl, fun w0 hS0 => ?_⟩) (by assumption) ?_
      · have q2 := (HVc.out _ hS0.2.1).2.1; go_simp
      try simp only [Act.put, lt, l0, ls]
      refine B.Till.next (i := 8) (o := ⟨some 69, .call ⟨.value (.func 21), #[.tmp 66, .tmp 68], #[98, 2]⟩, 2, "usage.go:111", #[⟨5, .data⟩, ⟨7, .data⟩], none⟩) (by kernel_rfl) rfl (fun K hK => ?_)
      go_simp
      refine (countUnits_any x HI7d.out HXb.out h5).mono ?_
      rintro e wz ⟨rfl, rfl⟩
      go_wp2_with fail
      refine hK.out _ _ (fun _ => hHeld) ?_
      clear hK K
      try simp only [Act.put, lt, l0, ls]
      refine B.Till.take (i := 11) (oi := ⟨some 72, .build 101 #[(0, .tmp 69), (1, .tmp 71)], 101, "usage.go:111", #[⟨8, .data⟩, ⟨10, .data⟩], none⟩) (v := .agg #[.int .i64 (unitsZ x H.unit), .string v.name, .int .i64 0]) rfl (by kernel_rfl) (by kernel_rfl) (by kernel_rfl) (by kernel_rfl) (fun _ _ _ h => h) (Or.inl ⟨by rfl, fun w0 hS0 => ?_⟩) (by assumption) ?_
      · go_simp
      try simp only [Act.put, lt, l0, ls]
      refine B.Till.next (i := 12) (o := ⟨some 73, .buildSlice 46 1 #[(0, .tmp 72)], 46, "usage.go:111", #[⟨11, .data⟩], none⟩) (by kernel_rfl) rfl (fun K hK => ?_)
      go_simp
      refine hK.out _ _ (fun _ => ⟨(heap_alloc_old _ _ HLc.out).trans hHeld.1, (heap_alloc_old _ _ HLk.out).trans hHeld.2.1, (heap_alloc_old _ _ HL6.out).trans hHeld.2.2⟩) ?_
      clear hK K
      try simp only [Act.put, lt, l0, ls]
      refine B.Till.next (i := 13) (o := ⟨some 74, .call ⟨.builtin .append, #[.tmp 65, .tmp 73], #[46, 46]⟩, 46, "usage.go:111", #[⟨4, .data⟩, ⟨12, .data⟩, ⟨8, .chain⟩], none⟩) (by kernel_rfl) rfl (fun K hK => ?_)
      refine step_append_lies _ rfl (.tmp 65) (.tmp 73) 46 rfl W0.heap.size 101 i0 _ 3 32 Tryz.underlying46 hi0 hz0 hz1 hz2 rfl (by decide) lv8 ln8 xs (by simp [Act.eval]) HO3.out ⟨w8.heap.size, 0, none⟩ 1 1 (lnC (unitsZ x H.unit) v.name 0) (by simp [Act.eval]) rfl (World.news_of_block (heap_alloc_new _ _)) (lnC_one _ _ _) (by decide) (by unfold maxLen; omega) (by omega) HG3.out _ rfl ?_
      intro g1 cap1 w4 hown hgrow hat hlt1
      have hS4 : w4.heap[cb]? = w8.heap[cb]? ∧ w4.heap[B1]? = w8.heap[B1]? ∧ w4.heap[B6]? = w8.heap[B6]? := ⟨(hgrow.block _ (HAl.out _ HLc.out) HNc.out).trans (heap_alloc_old _ _ HLc.out), (hgrow.block _ (HAl.out _ HLk.out) HN1.out).trans (heap_alloc_old _ _ HLk.out), (hgrow.block _ (HAl.out _ HL6.out) HN6.out).trans (heap_alloc_old _ _ HL6.out)⟩
      have HLn := Lib.hid (HW3.out.line (m := 1) hown hgrow)
      clear hown hgrow hat hlt1
      refine hK.out _ _ (fun _ => hS4) ?_
      clear hK K
      try simp only [Act.put, lt, l0, ls]
      refine B.Till.next (i := 14) (o := ⟨some 75, .nilCheck (.tmp 61), 0, "usage.go:111", #[⟨0, .data⟩, ⟨0, .phase⟩, ⟨1, .phase⟩, ⟨2, .phase⟩, ⟨3, .phase⟩, ⟨4, .phase⟩, ⟨5, .phase⟩, ⟨6, .phase⟩, ⟨7, .phase⟩, ⟨8, .phase⟩, ⟨9, .phase⟩, ⟨10, .phase⟩, ⟨11, .phase⟩, ⟨12, .phase⟩, ⟨13, .phase⟩], none⟩) (by kernel_rfl) rfl (fun K hK => ?_)
      go_simp
      refine hK.out _ _ (fun _ => hS4) ?_
      clear hK K
      try simp only [Act.put, lt, l0, ls]
      refine B.Till.next (i := 15) (o := ⟨some 76, .fieldAddr 78 (.tmp 75) 5, 0, "usage.go:111", #[⟨14, .data⟩, ⟨0, .phase⟩, ⟨1, .phase⟩, ⟨2, .phase⟩, ⟨3, .phase⟩, ⟨4, .phase⟩, ⟨5, .phase⟩, ⟨6, .phase⟩, ⟨7, .phase⟩, ⟨8, .phase⟩, ⟨9, .phase⟩, ⟨10, .phase⟩, ⟨11, .phase⟩, ⟨12, .phase⟩, ⟨13, .phase⟩], none⟩) (by kernel_rfl) rfl (fun K hK => ?_)
      go_simp
      refine hK.out _ _ (fun _ => hS4) ?_
      clear hK K
      try simp only [Act.put, lt, l0, ls]
      refine B.Till.next (i := 16) (o := ⟨none, .store 46 (.tmp 76) (.tmp 74), 0, "usage.go:111", #[⟨15, .data⟩, ⟨13, .data⟩, ⟨13, .chain⟩, ⟨0, .phase⟩, ⟨1, .phase⟩, ⟨2, .phase⟩, ⟨3, .phase⟩, ⟨4, .phase⟩, ⟨5, .phase⟩, ⟨6, .phase⟩, ⟨7, .phase⟩, ⟨8, .phase⟩, ⟨9, .phase⟩, ⟨10, .phase⟩, ⟨11, .phase⟩, ⟨12, .phase⟩, ⟨13, .phase⟩], none⟩) (by kernel_rfl) rfl (fun K hK => ?_)
      have cx := (HCc.out _ hS4.1).2.2.2.2.2.2.2.1
      have fx := (HCc.out _ hS4.1).2.2.2.2.2.2.2.2.1 209
      go_simp
      refine hK.out _ _ (fun q => absurd rfl q) ?_
      clear hK K
      try simp only [Act.put, lt, l0, ls]
      refine B.Till.done (by kernel_rfl) ?_
-- TILL 4 END
      go_wp2_with fail
      go_end0
      exact ⟨rfl, K', wh', ln8 + 1, _, HTz.out, by omega, HLn.out.1, HK8.out.trans ((Kt.of_below (((Below.refl _ _).drew).alloc (Nat.le_refl _) _)).trans HLn.out.2)⟩
end
end Go.Proofs.YtpikndeefiediaaGreatDoor.U
