/-
  Blocks told in units: what usage.Units, the reference's Units and the laws' awake return. Conditions: the numbers are int64s.
  What a sum's small steps do: blocks told in the units that are asked for, whether a visit has a line, whether a node was met ahead, a node met. Conditions: each contract's own.
  A node met: what is counted, for it and for each directory above it. Conditions: the depth is one of a walk's; the numbers are int64s.
-/
import Derived.Test.YtpikndeefiediaaGreatDoorKAdd
import Derived.Test.YtpikndeefiediaaGreatDoorKUBegin
set_option linter.unusedVariables false
set_option linter.unusedSimpArgs false
namespace Go.Proofs.YtpikndeefiediaaGreatDoor.U
open List renaming setIfInBounds_toArray → lt, set_cons_zero → l0, set_cons_succ → ls
open Go.RowKit

def unitsZ (b u : Int) : Int := if b < 1 then 0 else N.ceilZ (if 18014398509481983 < b then 9223372036854775807 else b * 512) (if u < 1 then 1024 else u)
theorem units_512 {b : Int} (h : 0 ≤ b) (h2 : b ≤ 18014398509481983) : unitsZ b 512 = b := by
  unfold unitsZ
  split
  · omega
  · rw [if_neg (by omega), if_neg (by omega)]
    unfold N.ceilZ
    rw [if_neg (by omega)]
    omega
theorem ret_u {k : IntKind} {a b : Int} (h : a = b) : Ending.returned (.int k a) = .returned (.int k b) := by rw [h]

set_option maxHeartbeats 400000 in
theorem units_any (b u : Int) (w : World) (h1 : -9223372036854775808 ≤ b) (h2 : b ≤ 9223372036854775807) (h3 : -9223372036854775808 ≤ u) (h4 : u ≤ 9223372036854775807) :
    Calls Tryz.prog 11 #[.int .i64 b, .int .i64 u] w fun e w' => e = .returned (.int .i64 (unitsZ b u)) ∧ w = w' := by
  by_cases hu : u < 1
  all_goals by_cases hb : b < 1
  all_goals try by_cases hc : 18014398509481983 < b
  all_goals
    go_enter Tryz.func11, Tryz.ntmps11
    go_wp2_with (go_at_call 22; refine (N.ceil_any _ _ _ (by omega) (by omega) (by omega) (by omega)).mono ?_; rintro e w' ⟨rfl, rfl⟩)
    go_ret
    exact ⟨ret_u (by unfold unitsZ; (first | rw [if_pos (show b < 1 by omega)] | rw [if_neg (show ¬ b < 1 by omega)]); try (first | rw [if_pos (show 18014398509481983 < b by omega)] | rw [if_neg (show ¬ 18014398509481983 < b by omega)]); try (first | rw [if_pos (show u < 1 by omega)] | rw [if_neg (show ¬ u < 1 by omega)])), rfl⟩


theorem awakeU_any (w : World) : Calls Tryz.prog 4 #[] w fun e w' => e = .returned (.bool true) ∧ w = w' := by
  go_enter Tryz.func4, Tryz.ntmps4
  go_wp2_with (go_at_call 11; refine (units_any _ _ _ (by omega) (by omega) (by omega) (by omega)).mono ?_; rintro e w' ⟨rfl, rfl⟩)
  go_ret
  exact ⟨rfl, rfl⟩
end Go.Proofs.YtpikndeefiediaaGreatDoor.U

namespace Go.Proofs.YtpikndeefiediaaGreatDoor.U
open List renaming setIfInBounds_toArray → lt, set_cons_zero → l0, set_cons_succ → ls
open Go.Proofs.YtpikndeefiediaaGreatDoor.B
open Go.RowKit Go.Maps

def nodeL (n : P.Nv) : List Value := [.int .i64 n.dev, .int .i64 n.ino, .int .i64 n.kind, .int .i64 n.mode, .int .i64 n.uid, .int .i64 n.gid, .int .i64 n.size, .int .i64 n.blocks, .int .i64 n.links, .int .i64 n.ta, .int .i64 n.tb, .int .i64 n.tc, .string n.target]
theorem laidU : laidOutB Tryz.prog = true := by kernel_rfl
theorem markK : Keyed Tryz.prog 127 := Keyed.of_law (deep_law_laid laidU (m := 3) (by omega) (of_decide_eq_true (by kernel_rfl)) (by kernel_rfl) (by rw [unU]))
theorem unM : Tryz.prog.underlying 73 = some (.map 127 128) := by kernel_rfl
theorem zeroU (w : World) : (zeroValue 128).run Tryz.prog w = .ok (.agg #[]) w := by kernel_rfl
theorem sizeU : (Tryz.prog.info? 128).map (·.size) = some 0 := by kernel_rfl
theorem sizeK : (Tryz.prog.info? 127).map (·.size) = some 2 := by kernel_rfl
theorem row_range {w : World} {b : Nat} {cs : List Value} {t : TypeId} {fr : Nat × Nat} (h : w.heap[b]? = some (.cells cs.toArray t fr)) : w.rangeAt b 0 cs := fun j v hv => by
  rw [cell_of_row _ _ _ _ _ _ h, Nat.zero_add]
  simpa using hv
theorem step_store_own {ops : Array Oper} {o : Oper} {a : Act} {w : World} {K : Act → World → Prop} {Q : Exit → Act → World → Prop} {E : Prop} (hgd : o.guard = none) (ty : TypeId) (x y : Operand) (ho : o.op = .store ty x y)
    (g : Nat) (cells : Array Value) (hx : a.eval x = .pointer (some ⟨g, 0, none⟩)) (hy : a.eval y = .agg cells)
    (t : TypeId) (old : Array Value) (hg : w.heap[g]? = some (.cells old t (0, 0))) (hi : (Tryz.prog.info? ty).map (·.size) = some cells.size)
    (hold : old.size = cells.size) (h1 : cells.all (·.oneCell') = true) (h : K (a.put o.dst undef) (w.setRow g cells)) :
    if Region.wanted o (yielded ops a.tmps) = true then Oper.wp Tryz.prog o a w K Q else E := by
  have hw : Region.wanted o (yielded ops a.tmps) = true := by simp [Region.wanted, hgd]
  rw [if_pos hw]
  exact wp_store_row ty x y ho g cells hx hy t old hg hi hold h1 h
theorem drew_row (w : World) (t : TypeId) : (w.alloc (.cells #[] t)).drew.setRow w.drew.heap.size #[] = (w.alloc (.cells #[] t)).drew := congrArg World.drew (World.setRow_alloc_new w #[] #[] t)
theorem exec_look {P : Program} {o : Oper} {a : Act} {w : World} {b : Nat} {key r : Value} (m x : Operand) (t : TypeId) (hop : o.op = Op.lookup t m x true) (hm : a.eval m = .map (some b)) (hx : a.eval x = key) (hrun : (Instr.lookup t (.map (some b)) key true).run P w = .ok r w) : (execOp a.eval o).run P w = .ok (.value r) w := by
  simp [execOp, hop, hm, hx, hrun, Result.andThen]
theorem look_same {w w0 : World} {mb : Nat} {K : List Value} {key : Value} {kl : Lit} {c : Bool} (h : MetAt Tryz.prog 127 (unitElem (H := Unit)) (.agg []) w mb K) (hw : w0.heap[mb]? = w.heap[mb]?) (hkl : keyOf Tryz.prog 127 key = some kl) (hc : c = true ↔ key ∈ K) :
    (Instr.lookup 73 (.map (some mb)) key true).run Tryz.prog w0 = .ok (.tuple #[.agg #[], .bool c]) w0 := by
  obtain ⟨c', hc', hrun⟩ := (h.at_ hw).look_unit markK unM (zeroU _) hkl
  rw [hrun, Bool.eq_iff_iff.2 (hc'.trans hc.symm)]
theorem step_met_store {ops : Array Oper} {o : Oper} {a : Act} {w : World} {K' : Act → World → Prop} {Q : Exit → Act → World → Prop} {E : Prop} {b : Nat} {S : List Value} (hgd : o.guard = none) (m x v : Operand) (hop : o.op = Op.mapUpdate 73 m x v)
    (h : MetAt Tryz.prog 127 (unitElem (H := Unit)) (.agg []) w b S) (hn : S.length < maxLen)
    (hm : a.eval m = .map (some b)) (key : Value) (hx : a.eval x = key) (hv : a.eval v = .agg #[]) (kl : Lit) (hkey : keyOf Tryz.prog 127 key = some kl)
    (hK : ∀ w', MetAt Tryz.prog 127 (unitElem (H := Unit)) (.agg []) w' b (S ++ [key]) → w.grownBy w' (some b) → K' (a.put o.dst undef) w') :
    if Region.wanted o (yielded ops a.tmps) = true then Oper.wp Tryz.prog o a w K' Q else E := by
  have hw : Region.wanted o (yielded ops a.tmps) = true := by simp [Region.wanted, hgd]
  rw [if_pos hw]
  exact wp_met_store m x v _ hop h markK unM hn hm key _ hx hv kl hkey _ unitElem_mk hK
/-- Is a node met ahead, where that matters? -/
def AgainP (H : How) (K : List Value) (n : P.Nv) (c : Bool) : Prop := c = true ↔ keyV n ∈ K ∧ H.each = false
/-- What isMetAgain answers, and leaves. -/
def MetR (W0 : World) (cb mb p : Nat) (H : How) (K : List Value) (wh : Int) (ln : Nat) (lv : Value) (n : P.Nv) (w : World) (e : Ending) (w' : World) : Prop := ∃ c : Bool, AgainP H K n c ∧ e = .returned (.bool c) ∧ Cnt W0 cb mb p H (K ++ [keyV n]) wh ln lv w' ∧ Kt w w'

section
variable {W0 : World} {cb mb p : Nat} {H : How} {K : List Value} {wh : Int} {ln : Nat} {lv : Value} {w : World}
theorem countUnits_any (b : Int) (h : Cnt W0 cb mb p H K wh ln lv w) (h1 : -9223372036854775808 ≤ b ∧ b ≤ 9223372036854775807) (h2 : -9223372036854775808 ≤ H.unit ∧ H.unit ≤ 9223372036854775807) :
    Calls Tryz.prog 21 #[.pointer (some ⟨cb, 0, none⟩), .int .i64 b] w fun e w' => e = .returned (.int .i64 (unitsZ b H.unit)) ∧ w = w' := by
  obtain ⟨_, _, _, _, c4, _⟩ := h.cells rfl
  clear h
  go_enter Tryz.func21, Tryz.ntmps21
  go_wp2_with (go_at_call 11; refine (units_any _ _ _ (by omega) (by omega) (by omega) (by omega)).mono ?_; rintro e w' ⟨rfl, rfl⟩)
  go_ret
  exact ⟨rfl, rfl⟩

set_option maxRecDepth 100000 in
set_option maxHeartbeats 4000000 in
theorem metAgain_any (n : P.Nv) (h : Cnt W0 cb mb p H K wh ln lv w) (hK : K.length ≤ 10000000) (h1 : -9223372036854775808 ≤ n.dev ∧ n.dev ≤ 9223372036854775807) (h2 : -9223372036854775808 ≤ n.ino ∧ n.ino ≤ 9223372036854775807) :
    Calls Tryz.prog 54 #[.pointer (some ⟨cb, 0, none⟩), P.nodeV n] w (MetR W0 cb mb p H K wh ln lv n w) := by
  obtain ⟨kl, hkl⟩ := key_any n h1 h2
  have HC := Lib.hid h
  have HKl := Lib.hid hkl
  clear h hkl
  unfold P.nodeV
  go_enter Tryz.func54, Tryz.ntmps54
  go_upto_region 1 with fail
  have HX := Lib.hid (heap_alloc_new w (.cells (nodeL n).toArray 36))
  have HB1 := Lib.hid (show Below w.heap.size w (w.alloc (.cells (nodeL n).toArray 36)) from (Below.refl _ _).alloc (Nat.le_refl _) _)
  unfold nodeL at HX HB1
  generalize w.alloc (.cells #[.int .i64 n.dev, .int .i64 n.ino, .int .i64 n.kind, .int .i64 n.mode, .int .i64 n.uid, .int .i64 n.gid, .int .i64 n.size, .int .i64 n.blocks, .int .i64 n.links, .int .i64 n.ta, .int .i64 n.tb, .int .i64 n.tc, .string n.target] 36) = w1 at HX HB1 ⊢
  obtain ⟨B1, hB1⟩ : ∃ B1, w.heap.size = B1 := ⟨_, rfl⟩
  rw [hB1] at HX ⊢
  have n0 : w1.cell? ⟨B1, 0, none⟩ = some (.int .i64 n.dev) := by rw [cell_of_row _ _ _ _ _ _ HX.out]; rfl
  have n1 : w1.cell? ⟨B1, 1, none⟩ = some (.int .i64 n.ino) := by rw [cell_of_row _ _ _ _ _ _ HX.out]; rfl
  go_upto_region 2 with fail
  have HX2 := Lib.hid (heap_alloc_new w1 (.cells #[.int .i64 n.dev, .int .i64 n.ino] 127))
  have HB2 := Lib.hid (HB1.out.alloc HB1.out.size (.cells #[.int .i64 n.dev, .int .i64 n.ino] 127))
  generalize w1.alloc (.cells #[.int .i64 n.dev, .int .i64 n.ino] 127) = w2 at HX2 HB2 ⊢
  clear hB1 n0 n1 HX HB1
  obtain ⟨B2, hB2⟩ : ∃ B2, w1.heap.size = B2 := ⟨_, rfl⟩
  rw [hB2] at HX2 ⊢
  have HC2 := Lib.hid (HC.out.keep HB2.out)
  have HCc := Lib.hid (fun W hW => HC2.out.cells (W := W) hW)
  have HLc := Lib.hid HC2.out.lt
  have HLm := Lib.hid HC2.out.met.lt
  have HLk := Lib.hid (heap_lt HX2.out)
  obtain ⟨c, hc⟩ : ∃ c : Bool, (c = true ↔ keyV n ∈ K) := by
    by_cases q : keyV n ∈ K
    · exact ⟨true, fun _ => q, fun _ => rfl⟩
    · exact ⟨false, fun z => (by cases z), fun z => absurd z q⟩
  have Hc := Lib.hid hc
  clear hc hB2
-- TILL 1
  refine B.Till.region (z := 1000) (S := fun w' => w'.heap[cb]? = w2.heap[cb]? ∧ w'.heap[mb]? = w2.heap[mb]? ∧ w'.heap[B2]? = w2.heap[B2]?) (by kernel_rfl) ⟨rfl, rfl, rfl⟩ (fun hHeld => ?_)
  refine B.Till.takeA (i := 0) (oi := ⟨some 14, .move (.tmp 0), 98, "usage.go:132", #[], none⟩) (v := .pointer (some ⟨cb, 0, none⟩)) rfl (by kernel_rfl) (by kernel_rfl) (by kernel_rfl) (by kernel_rfl) (fun _ _ _ h => h) (Or.inl ⟨by rfl, fun w0 hS0 => ?_⟩) (by assumption) ?_
  · go_simp
  try simp only [Act.put, lt, l0, ls]
  refine B.Till.takeA (i := 1) (oi := ⟨some 15, .nilCheck (.tmp 14), 0, "usage.go:132", #[⟨0, .data⟩], none⟩) (v := .pointer (some ⟨cb, 0, none⟩)) rfl (by kernel_rfl) (by kernel_rfl) (by kernel_rfl) (by kernel_rfl) (fun _ _ _ h => h) (Or.inl ⟨by rfl, fun w0 hS0 => ?_⟩) (by assumption) ?_
  · go_simp
  try simp only [Act.put, lt, l0, ls]
  refine B.Till.takeA (i := 2) (oi := ⟨some 16, .fieldAddr 78 (.tmp 15) 2, 0, "usage.go:132", #[⟨1, .data⟩], none⟩) (v := .pointer (some ⟨cb, 5, none⟩)) rfl (by kernel_rfl) (by kernel_rfl) (by kernel_rfl) (by kernel_rfl) (fun _ _ _ h => h) (Or.inl ⟨by rfl, fun w0 hS0 => ?_⟩) (by assumption) ?_
  · go_simp
  try simp only [Act.put, lt, l0, ls]
  refine B.Till.takeA (i := 3) (oi := ⟨some 17, .load 73 (.tmp 16), 73, "usage.go:132", #[⟨2, .data⟩], none⟩) (v := .map (some mb)) rfl (by kernel_rfl) (by kernel_rfl) (by kernel_rfl) (by kernel_rfl) (fun _ _ _ h => h) (Or.inl ⟨by rfl, fun w0 hS0 => ?_⟩) (by assumption) ?_
  · have c5 := (HCc.out _ hS0.1).2.2.2.2.2.1; go_simp
  try simp only [Act.put, lt, l0, ls]
  refine B.Till.takeA (i := 4) (oi := ⟨some 18, .load 127 (.tmp 5), 127, "usage.go:132", #[], none⟩) (v := .agg #[.int .i64 n.dev, .int .i64 n.ino]) rfl (by kernel_rfl) (by kernel_rfl) (by kernel_rfl) (by kernel_rfl) (fun _ _ _ h => h) (yieldsIf_load_mid (by rfl) 127 (.tmp 5) rfl B2 0 rfl [.int .i64 n.dev, .int .i64 n.ino] _ (fun w0 hS0 => row_range (hS0.2.2.trans HX2.out)) unU rfl sizeK) (by assumption) ?_
  try simp only [Act.put, lt, l0, ls]
  refine B.Till.takeA (i := 5) (oi := ⟨some 19, .lookup 73 (.tmp 17) (.tmp 18) true, 129, "usage.go:132", #[⟨3, .data⟩, ⟨4, .data⟩], none⟩) (v := .tuple #[.agg #[], .bool c]) rfl (by kernel_rfl) (by kernel_rfl) (by kernel_rfl) (by kernel_rfl) (fun _ _ _ h => h) (Or.inl ⟨by rfl, fun w0 hS0 => exec_look (.tmp 17) (.tmp 18) _ rfl rfl rfl (look_same HC2.out.met hS0.2.1 HKl.out Hc.out)⟩) (by assumption) ?_
  try simp only [Act.put, lt, l0, ls]
  refine B.Till.takeA (i := 6) (oi := ⟨some 13, .move (.tmp 19), 129, "usage.go:132", #[⟨5, .data⟩], none⟩) (v := .tuple #[.agg #[], .bool c]) rfl (by kernel_rfl) (by kernel_rfl) (by kernel_rfl) (by kernel_rfl) (fun _ _ _ h => h) (Or.inl ⟨by rfl, fun w0 hS0 => ?_⟩) (by assumption) ?_
  · go_simp
  try simp only [Act.put, lt, l0, ls]
  refine B.Till.takeA (i := 7) (oi := ⟨some 20, .extract (.tmp 13) 0, 128, "usage.go:132", #[⟨6, .data⟩], none⟩) (v := .agg #[]) rfl (by kernel_rfl) (by kernel_rfl) (by kernel_rfl) (by kernel_rfl) (fun _ _ _ h => h) (Or.inl ⟨by rfl, fun w0 hS0 => ?_⟩) (by assumption) ?_
  · go_simp
  try simp only [Act.put, lt, l0, ls]
  refine B.Till.takeA (i := 8) (oi := ⟨some 21, .extract (.tmp 13) 1, 4, "usage.go:132", #[⟨6, .data⟩, ⟨10, .gcOnly .lateStores⟩], none⟩) (v := .bool c) rfl (by kernel_rfl) (by kernel_rfl) (by kernel_rfl) (by kernel_rfl) (fun _ _ _ h => h) (Or.inl ⟨by rfl, fun w0 hS0 => ?_⟩) (by assumption) ?_
  · go_simp
  try simp only [Act.put, lt, l0, ls]
  refine B.Till.next (i := 9) (o := ⟨some 6, .alloc 128, 0, "usage.go:132", #[], none⟩) (by kernel_rfl) rfl (fun K hK => ?_)
  go_simp
  refine hK.out _ _ (fun _ => ⟨(heap_alloc_old _ _ HLc.out).trans hHeld.1, (heap_alloc_old _ _ HLm.out).trans hHeld.2.1, (heap_alloc_old _ _ HLk.out).trans hHeld.2.2⟩) ?_
  clear hK K
  try simp only [Act.put, lt, l0, ls]
  refine B.Till.next (i := 10) (o := ⟨none, .store 128 (.tmp 6) (.tmp 20), 0, "usage.go:132", #[⟨9, .data⟩, ⟨7, .data⟩, ⟨0, .phase⟩, ⟨1, .phase⟩, ⟨2, .phase⟩, ⟨3, .phase⟩, ⟨4, .phase⟩, ⟨5, .phase⟩, ⟨6, .phase⟩, ⟨7, .phase⟩, ⟨8, .textOnly .lateStores⟩, ⟨9, .phase⟩], none⟩) (by kernel_rfl) rfl (fun K hK => ?_)
  refine step_store_own rfl 128 (.tmp 6) (.tmp 20) rfl w2.drew.heap.size #[] rfl rfl 128 #[] (heap_alloc_new _ _) sizeU rfl (by simp) ?_
  rw [drew_row]
  refine hK.out _ _ (fun _ => ⟨(heap_alloc_old _ _ HLc.out).trans hHeld.1, (heap_alloc_old _ _ HLm.out).trans hHeld.2.1, (heap_alloc_old _ _ HLk.out).trans hHeld.2.2⟩) ?_
  clear hK K
  try simp only [Act.put, lt, l0, ls]
  refine B.Till.next (i := 11) (o := ⟨some 7, .assign (.tmp 21), 4, "usage.go:132", #[⟨8, .data⟩, ⟨10, .chain⟩, ⟨0, .phase⟩, ⟨1, .phase⟩, ⟨2, .phase⟩, ⟨3, .phase⟩, ⟨4, .phase⟩, ⟨5, .phase⟩, ⟨6, .phase⟩, ⟨7, .phase⟩, ⟨8, .phase⟩, ⟨9, .phase⟩, ⟨10, .phase⟩], none⟩) (by kernel_rfl) rfl (fun K hK => ?_)
  go_simp
  refine hK.out _ _ (fun _ => ⟨(heap_alloc_old _ _ HLc.out).trans hHeld.1, (heap_alloc_old _ _ HLm.out).trans hHeld.2.1, (heap_alloc_old _ _ HLk.out).trans hHeld.2.2⟩) ?_
  clear hK K
  try simp only [Act.put, lt, l0, ls]
  refine B.Till.done (by kernel_rfl) ?_
-- TILL 1 END
  have HB3 := Lib.hid (show Below w2.heap.size w2 ((w2.alloc (.cells #[] 128)).drew) from ((Below.refl _ _).alloc (Nat.le_refl _) _).drew)
  generalize (w2.alloc (.cells #[] 128)).drew = w3 at HB3 ⊢
  have HX3 := Lib.hid (show w3.heap[B2]? = some (.cells #[.int .i64 n.dev, .int .i64 n.ino] 127 (0, 0)) from (HB3.out.block _ HLk.out).trans HX2.out)
  have HC3 := Lib.hid (HC2.out.keep HB3.out)
  have HC3d := Lib.hid (HC3.out.keep (show Below w3.heap.size w3 w3.drew from (Below.refl _ _).drew))
  have HM3 := Lib.hid HC3d.out.met
  have HCd := Lib.hid (fun W hW => HC3.out.cells (W := W) hW)
  have HK3 := Lib.hid ((Kt.of_below HB2.out).trans ((Kt.of_below HB3.out).trans (Kt.of_below (show Below w3.heap.size w3 w3.drew from (Below.refl _ _).drew))))
  clear HX2 HB2 HC2 HCc HLc HLm HLk HB3 HC
  go_upto_region 3 with fail
-- TILL 2
  refine B.Till.region (z := 6) (S := fun w' => w'.heap[cb]? = w3.heap[cb]? ∧ w'.heap[mb]? = w3.heap[mb]? ∧ w'.heap[B2]? = w3.heap[B2]?) (by kernel_rfl) ⟨rfl, rfl, rfl⟩ (fun hHeld => ?_)
  refine B.Till.take (i := 0) (oi := ⟨some 22, .move (.tmp 0), 98, "usage.go:133", #[], none⟩) (v := .pointer (some ⟨cb, 0, none⟩)) rfl (by kernel_rfl) (by kernel_rfl) (by kernel_rfl) (by kernel_rfl) (fun _ _ _ h => h) (Or.inl ⟨by rfl, fun w0 hS0 => ?_⟩) (by assumption) ?_
  · go_simp
  try simp only [Act.put, lt, l0, ls]
  refine B.Till.take (i := 1) (oi := ⟨some 23, .nilCheck (.tmp 22), 0, "usage.go:133", #[⟨0, .data⟩], none⟩) (v := .pointer (some ⟨cb, 0, none⟩)) rfl (by kernel_rfl) (by kernel_rfl) (by kernel_rfl) (by kernel_rfl) (fun _ _ _ h => h) (Or.inl ⟨by rfl, fun w0 hS0 => ?_⟩) (by assumption) ?_
  · go_simp
  try simp only [Act.put, lt, l0, ls]
  refine B.Till.take (i := 2) (oi := ⟨some 24, .fieldAddr 78 (.tmp 23) 2, 0, "usage.go:133", #[⟨1, .data⟩], none⟩) (v := .pointer (some ⟨cb, 5, none⟩)) rfl (by kernel_rfl) (by kernel_rfl) (by kernel_rfl) (by kernel_rfl) (fun _ _ _ h => h) (Or.inl ⟨by rfl, fun w0 hS0 => ?_⟩) (by assumption) ?_
  · go_simp
  try simp only [Act.put, lt, l0, ls]
  refine B.Till.take (i := 3) (oi := ⟨some 25, .load 73 (.tmp 24), 73, "usage.go:133", #[⟨2, .data⟩], none⟩) (v := .map (some mb)) rfl (by kernel_rfl) (by kernel_rfl) (by kernel_rfl) (by kernel_rfl) (fun _ _ _ h => h) (Or.inl ⟨by rfl, fun w0 hS0 => ?_⟩) (by assumption) ?_
  · have c5 := (HCd.out _ hS0.1).2.2.2.2.2.1; go_simp
  try simp only [Act.put, lt, l0, ls]
  refine B.Till.take (i := 4) (oi := ⟨some 26, .load 127 (.tmp 5), 127, "usage.go:133", #[], none⟩) (v := .agg #[.int .i64 n.dev, .int .i64 n.ino]) rfl (by kernel_rfl) (by kernel_rfl) (by kernel_rfl) (by kernel_rfl) (fun _ _ _ h => h) (yieldsIf_load_mid (by rfl) 127 (.tmp 5) rfl B2 0 rfl [.int .i64 n.dev, .int .i64 n.ino] _ (fun w0 hS0 => row_range (hS0.2.2.trans HX3.out)) unU rfl sizeK) (by assumption) ?_
  try simp only [Act.put, lt, l0, ls]
  refine B.Till.take (i := 5) (oi := ⟨some 27, .build 128 #[], 128, "usage.go:133", #[], none⟩) (v := .agg #[]) rfl (by kernel_rfl) (by kernel_rfl) (by kernel_rfl) (by kernel_rfl) (fun _ _ _ h => h) (Or.inl ⟨by rfl, fun w0 hS0 => ?_⟩) (by assumption) ?_
  · go_simp
  try simp only [Act.put, lt, l0, ls]
  refine B.Till.next (i := 6) (o := ⟨none, .mapUpdate 73 (.tmp 25) (.tmp 26) (.tmp 27), 0, "usage.go:133", #[⟨3, .data⟩, ⟨4, .data⟩, ⟨5, .data⟩, ⟨0, .phase⟩, ⟨1, .phase⟩, ⟨2, .phase⟩, ⟨3, .phase⟩, ⟨4, .phase⟩, ⟨5, .phase⟩], none⟩) (by kernel_rfl) rfl (fun K hK => ?_)
  refine step_met_store rfl (.tmp 25) (.tmp 26) (.tmp 27) rfl HM3.out (by unfold maxLen; omega) rfl (keyV n) rfl rfl kl HKl.out ?_
  intro w4 hm4 hg4
  have HC4 := Lib.hid (HC3d.out.mark hm4 hg4)
  clear hm4 hg4
  refine hK.out _ _ (fun q => absurd rfl q) ?_
  clear hK K
  try simp only [Act.put, lt, l0, ls]
  refine B.Till.done (by kernel_rfl) ?_
-- TILL 2 END
  have HC5 := Lib.hid (And.intro HC4.out.1 (HK3.out.trans HC4.out.2))
  clear HC4 HC3 HC3d HM3 HCd HK3 HX3
  obtain ⟨_, _, _, c3, _⟩ := HC5.out.1.cells rfl
  cases c with
  | false =>
    go_wp2_with fail
    go_ret
    exact Exists.intro false ⟨⟨fun z => (by cases z), fun z => absurd (Hc.out.2 z.1) (by decide)⟩, rfl, HC5.out.1, HC5.out.2⟩
  | true =>
    go_wp2_with fail
    go_ret
    exact Exists.intro (!H.each) ⟨⟨fun z => ⟨by simpa using Hc.out, by simpa using z⟩, fun z => by rw [z.2]; rfl⟩, rfl, HC5.out.1, HC5.out.2⟩
end
end Go.Proofs.YtpikndeefiediaaGreatDoor.U

namespace Go.Proofs.YtpikndeefiediaaGreatDoor.U
open List renaming setIfInBounds_toArray → lt, set_cons_zero → l0, set_cons_succ → ls
open Go.Proofs.YtpikndeefiediaaGreatDoor.B
open Go.RowKit Go.Maps

theorem sizeN : (Tryz.prog.info? 36).map (·.size) = some 13 := by kernel_rfl
theorem sizeO : (Tryz.prog.info? 75).map (·.size) = some 2 := by kernel_rfl
/-- The address of a member of the row of what is open. -/
theorem arr_at (cb off d : Nat) (w : World) (hd : d < 101) : (Instr.indexAt 76 (.pointer (some ⟨cb, off, none⟩)) (.int .i64 (d : Int))).run Tryz.prog w = .ok (.pointer (some ⟨cb, off + d * 2, none⟩)) w := by
  have hu : Tryz.prog.underlying 76 = some (.array (Tryz.prog.arrayLen 76) (Tryz.prog.elem 76)) := by kernel_rfl
  have hl : Tryz.prog.arrayLen 76 = 101 := by kernel_rfl
  have hs : ∀ W : World, (sizeOf (Tryz.prog.elem 76)).run Tryz.prog W = .ok 2 W := fun W => by kernel_rfl
  rw [run_indexAt_array _ _ _ _ _ hu, hl, if_pos ⟨by omega, by omega⟩, hs]
  show Result.ok _ w = _
  rw [Addr.add_mid, Int.toNat_natCast]
theorem step_arr {ops : Array Oper} {o : Oper} {a : Act} {w : World} {K : Act → World → Prop} {Q : Exit → Act → World → Prop} {E : Prop} (hgd : o.guard = none) (x i : Operand) (ho : o.op = .indexAddr 76 x i) (cb off d : Nat) (hd : d < 101)
    (hx : a.eval x = .pointer (some ⟨cb, off, none⟩)) (hi : a.eval i = .int .i64 (d : Int)) (h : K (a.put o.dst (.pointer (some ⟨cb, off + d * 2, none⟩))) w) :
    if Region.wanted o (yielded ops a.tmps) = true then Oper.wp Tryz.prog o a w K Q else E := by
  have hw : Region.wanted o (yielded ops a.tmps) = true := by simp [Region.wanted, hgd]
  rw [if_pos hw]
  unfold Oper.wp
  simp [execOp, ho, hx, hi, arr_at cb off d w hd, Result.andThen]
  exact h
theorem wpList_arr {ops : Array Oper} {rest : List Oper} {o : Oper} {a : Act} {w : World} {Q : Exit → Act → World → Prop} (hgd : o.guard = none) (x i : Operand) (ho : o.op = .indexAddr 76 x i) (cb off d : Nat) (hd : d < 101)
    (hx : a.eval x = .pointer (some ⟨cb, off, none⟩)) (hi : a.eval i = .int .i64 (d : Int)) (h : wpList Tryz.prog ops Q rest (a.put o.dst (.pointer (some ⟨cb, off + d * 2, none⟩))) w) : wpList Tryz.prog ops Q (o :: rest) a w :=
  wpList_plain hgd fun K hK => by
    unfold Oper.wp
    simp [execOp, ho, hx, hi, arr_at cb off d w hd, Result.andThen]
    exact hK _ _ h
theorem exec_arr {o : Oper} {a : Act} {w : World} (x i : Operand) (ho : o.op = .indexAddr 76 x i) (cb off d : Nat) (hd : d < 101) (hx : a.eval x = .pointer (some ⟨cb, off, none⟩)) (hi : a.eval i = .int .i64 (d : Int)) : (execOp a.eval o).run Tryz.prog w = .ok (.value (.pointer (some ⟨cb, off + d * 2, none⟩))) w := by
  simp [execOp, ho, hx, hi, arr_at cb off d w hd, Result.andThen]
theorem step_store_mid {ops : Array Oper} {o : Oper} {a : Act} {w : World} {K : Act → World → Prop} {Q : Exit → Act → World → Prop} {E : Prop} (hgd : o.guard = none) (ty : TypeId) (x y : Operand) (ho : o.op = .store ty x y)
    (b off : Nat) (cells : Array Value) (hx : a.eval x = .pointer (some ⟨b, off, none⟩)) (hy : a.eval y = .agg cells) (ht : w.there b off cells.size) (hi : (Tryz.prog.info? ty).map (·.size) = some cells.size) (h1 : cells.all (·.oneCell') = true) (h : K (a.put o.dst undef) (w.setCells b off cells.toList)) :
    if Region.wanted o (yielded ops a.tmps) = true then Oper.wp Tryz.prog o a w K Q else E := by
  have hw : Region.wanted o (yielded ops a.tmps) = true := by simp [Region.wanted, hgd]
  rw [if_pos hw]
  exact wp_store_mid ty x y ho b off cells hx hy ht hi h1 h
theorem open_one (c : Bool) : (#[Value.int .i64 0, .bool c] : Array Value).all (·.oneCell') = true := by simp [Value.oneCell']
/-- What is counted behind a node that was met. -/
def metZ (H : How) (K : List Value) (n : P.Nv) (wh wh' : Int) : Prop := (keyV n ∈ K ∧ H.each = false → wh' = wh) ∧ (¬ (keyV n ∈ K ∧ H.each = false) → wh' = N.cutZ (wh + n.blocks))
/-- Ahead of the round for i. -/
def MeetRel (W0 : World) (cb mb p : Nat) (H : How) (K : List Value) (wh : Int) (ln : Nat) (lv : Value) (d : Nat) (w w3 : World) (v : Value) (wr : World) : Prop := ∃ i : Nat, i ≤ d + 1 ∧ v = .int .i64 (i : Int) ∧ Hid (Cnt W0 cb mb p H K wh ln lv wr ∧ Kt w wr ∧ Kt w3 wr)
/-- What meet leaves. -/
def MeetR (W0 : World) (cb mb p : Nat) (H : How) (K : List Value) (wh : Int) (ln : Nat) (lv : Value) (n : P.Nv) (w : World) (e : Ending) (w' : World) : Prop := e = .returned (.tuple #[]) ∧ ∃ wh', metZ H K n wh wh' ∧ Cnt W0 cb mb p H (K ++ [keyV n]) wh' ln lv w' ∧ Kt w w'
/-- Two numbers in a slice of a call's own. -/
theorem add2_any (x y : Int) (g : Nat) (w : World) (h0 : w.cell? ⟨g, 0, none⟩ = some (.int .i64 x)) (h1 : w.cell? ⟨g, 1, none⟩ = some (.int .i64 y)) (hx : -9223372036854775808 ≤ x ∧ x ≤ 9223372036854775807) (hy : -9223372036854775808 ≤ y ∧ y ≤ 9223372036854775807) :
    Calls Tryz.prog 55 #[.slice (some ⟨g, 0, none⟩) 2 2] w fun e w' => e = .returned (.int .i64 (N.cutZ (x + y))) ∧ w = w' := by
  have h := N.add_some g 0 2 2 [x, y] w (by simp) (by simp) (fun i hi => by
    have : i = 0 ∨ i = 1 := by simp at hi; omega
    rcases this with rfl | rfl
    · exact h0
    · exact h1) (fun i => by
    match i with
    | 0 => exact hx
    | 1 => exact hy
    | n + 2 => rw [show [x, y].getD (n + 2) 0 = 0 from rfl]; omega)
  refine h.mono ?_
  rintro e w' ⟨rfl, rfl⟩
  refine ⟨?_, rfl⟩
  have e1 : N.addAll [x, y] = N.cutZ (x + y) := by
    show N.cutZ (N.cutZ (0 + x) + y) = _
    have : N.cutZ (0 + x) = x := by unfold N.cutZ; rw [if_neg (by omega), if_neg (by omega)]; omega
    rw [this]
  rw [show [x, y].take 2 = [x, y] from rfl, e1]
section
variable {W0 : World} {cb mb p : Nat} {H : How} {K : List Value} {wh : Int} {ln : Nat} {lv : Value} {w : World}
set_option maxRecDepth 100000 in
set_option maxHeartbeats 4000000 in
theorem meet_any (d : Nat) (n : P.Nv) (h : Cnt W0 cb mb p H K wh ln lv w) (hd : d < 101) (hK : K.length ≤ 10000000) (h1 : -9223372036854775808 ≤ n.dev ∧ n.dev ≤ 9223372036854775807) (h2 : -9223372036854775808 ≤ n.ino ∧ n.ino ≤ 9223372036854775807) (h3 : -9223372036854775808 ≤ n.blocks ∧ n.blocks ≤ 9223372036854775807) (h4 : -9223372036854775808 ≤ wh ∧ wh ≤ 9223372036854775807) :
    Calls Tryz.prog 37 #[.pointer (some ⟨cb, 0, none⟩), .int .i64 (d : Int), P.nodeV n] w (MeetR W0 cb mb p H K wh ln lv n w) := by
  have HB1 := Lib.hid (show Below w.heap.size w (w.alloc (.cells (nodeL n).toArray 36)) from (Below.refl _ _).alloc (Nat.le_refl _) _)
  have HX := Lib.hid (heap_alloc_new w (.cells (nodeL n).toArray 36))
  have HC := Lib.hid (h.keep HB1.out)
  clear h
  unfold P.nodeV
  go_enter Tryz.func37, Tryz.ntmps37
  go_upto_region 1 with fail
  unfold nodeL at HX HB1 HC
  generalize w.alloc (.cells #[.int .i64 n.dev, .int .i64 n.ino, .int .i64 n.kind, .int .i64 n.mode, .int .i64 n.uid, .int .i64 n.gid, .int .i64 n.size, .int .i64 n.blocks, .int .i64 n.links, .int .i64 n.ta, .int .i64 n.tb, .int .i64 n.tc, .string n.target] 36) = w1 at HX HB1 HC ⊢
  obtain ⟨B1, hB1⟩ : ∃ B1, w.heap.size = B1 := ⟨_, rfl⟩
  rw [hB1] at HX ⊢
  have HLk := Lib.hid (heap_lt HX.out)
  have HK0 := Lib.hid ((Kt.of_below HB1.out).trans (Kt.of_below (show Below w1.heap.size w1 w1.drew from (Below.refl _ _).drew)))
  have HMt := Lib.hid (metAgain_any n (HC.out.keep (show Below w1.heap.size w1 w1.drew from (Below.refl _ _).drew)) hK h1 h2)
  unfold P.nodeV at HMt
-- TILL 3
  refine B.Till.region (z := 1000) (S := fun w' => w'.heap[B1]? = w1.heap[B1]?) (by kernel_rfl) rfl (fun hHeld => ?_)
  refine B.Till.takeA (i := 0) (oi := ⟨some 7, .move (.tmp 0), 98, "usage.go:118", #[], none⟩) (v := .pointer (some ⟨cb, 0, none⟩)) rfl (by kernel_rfl) (by kernel_rfl) (by kernel_rfl) (by kernel_rfl) (fun _ _ _ h => h) (Or.inl ⟨by rfl, fun w0 hS0 => ?_⟩) (by assumption) ?_
  · go_simp
  try simp only [Act.put, lt, l0, ls]
  refine B.Till.takeA (i := 1) (oi := ⟨some 8, .move (.tmp 1), 3, "usage.go:118", #[], none⟩) (v := .int .i64 (d : Int)) rfl (by kernel_rfl) (by kernel_rfl) (by kernel_rfl) (by kernel_rfl) (fun _ _ _ h => h) (Or.inl ⟨by rfl, fun w0 hS0 => ?_⟩) (by assumption) ?_
  · go_simp
  try simp only [Act.put, lt, l0, ls]
  refine B.Till.takeA (i := 2) (oi := ⟨some 9, .move (.tmp 0), 98, "usage.go:118", #[], none⟩) (v := .pointer (some ⟨cb, 0, none⟩)) rfl (by kernel_rfl) (by kernel_rfl) (by kernel_rfl) (by kernel_rfl) (fun _ _ _ h => h) (Or.inl ⟨by rfl, fun w0 hS0 => ?_⟩) (by assumption) ?_
  · go_simp
  try simp only [Act.put, lt, l0, ls]
  refine B.Till.takeA (i := 3) (oi := ⟨some 10, .load 36 (.tmp 5), 36, "usage.go:118", #[], none⟩) (v := .agg #[.int .i64 n.dev, .int .i64 n.ino, .int .i64 n.kind, .int .i64 n.mode, .int .i64 n.uid, .int .i64 n.gid, .int .i64 n.size, .int .i64 n.blocks, .int .i64 n.links, .int .i64 n.ta, .int .i64 n.tb, .int .i64 n.tc, .string n.target]) rfl (by kernel_rfl) (by kernel_rfl) (by kernel_rfl) (by kernel_rfl) (fun _ _ _ h => h) (yieldsIf_load_mid (by rfl) 36 (.tmp 5) rfl B1 0 rfl [.int .i64 n.dev, .int .i64 n.ino, .int .i64 n.kind, .int .i64 n.mode, .int .i64 n.uid, .int .i64 n.gid, .int .i64 n.size, .int .i64 n.blocks, .int .i64 n.links, .int .i64 n.ta, .int .i64 n.tb, .int .i64 n.tc, .string n.target] _ (fun w0 hS0 => row_range (hS0.trans HX.out)) Tryz.underlying36 rfl sizeN) (by assumption) ?_
  try simp only [Act.put, lt, l0, ls]
  refine B.Till.takeA (i := 6) (oi := ⟨some 13, .nilCheck (.tmp 7), 0, "usage.go:118", #[⟨0, .data⟩], none⟩) (v := .pointer (some ⟨cb, 0, none⟩)) rfl (by kernel_rfl) (by kernel_rfl) (by kernel_rfl) (by kernel_rfl) (fun _ _ _ h => h) (Or.inl ⟨by rfl, fun w0 hS0 => ?_⟩) (by assumption) ?_
  · go_simp
  try simp only [Act.put, lt, l0, ls]
  refine B.Till.takeA (i := 7) (oi := ⟨some 14, .fieldAddr 78 (.tmp 13) 3, 0, "usage.go:118", #[⟨6, .data⟩], none⟩) (v := .pointer (some ⟨cb, 6, none⟩)) rfl (by kernel_rfl) (by kernel_rfl) (by kernel_rfl) (by kernel_rfl) (fun _ _ _ h => h) (Or.inl ⟨by rfl, fun w0 hS0 => ?_⟩) (by assumption) ?_
  · go_simp
  try simp only [Act.put, lt, l0, ls]
  refine B.Till.next (i := 4) (o := ⟨some 11, .call ⟨.value (.func 54), #[.tmp 9, .tmp 10], #[98, 36]⟩, 4, "usage.go:118", #[⟨2, .data⟩, ⟨3, .data⟩], none⟩) (by kernel_rfl) rfl (fun K hK => ?_)
  go_simp
  refine HMt.out.mono ?_
  rintro e w2 ⟨c, hag, rfl, hc2, hk2⟩
  have HAg := Lib.hid hag
  have HC2 := Lib.hid hc2
  have HK2 := Lib.hid (HK0.out.trans hk2)
  have hb2 : w2.heap[B1]? = w1.heap[B1]? := by rw [hk2.2 B1 _ _ _ (hHeld.trans HX.out) (by decide) (by decide), HX.out]
  clear hag hc2 hk2
  go_wp2_with fail
  refine hK.out _ _ (fun _ => hb2) ?_
  clear hK K
  try simp only [Act.put, lt, l0, ls]
  refine B.Till.next (i := 5) (o := ⟨some 12, .build 75 #[(1, .tmp 11)], 75, "usage.go:118", #[⟨4, .data⟩], none⟩) (by kernel_rfl) rfl (fun K hK => ?_)
  go_simp
  refine hK.out _ _ (fun _ => hb2) ?_
  clear hK K
  try simp only [Act.put, lt, l0, ls]
  refine B.Till.next (i := 8) (o := ⟨some 15, .indexAddr 76 (.tmp 14) (.tmp 8), 0, "usage.go:118", #[⟨7, .data⟩, ⟨1, .data⟩, ⟨0, .phase⟩, ⟨1, .phase⟩, ⟨2, .phase⟩, ⟨3, .phase⟩, ⟨4, .phase⟩, ⟨5, .phase⟩], none⟩) (by kernel_rfl) rfl (fun K hK => ?_)
  refine step_arr rfl (.tmp 14) (.tmp 8) rfl cb 6 d hd rfl rfl ?_
  refine hK.out _ _ (fun _ => hb2) ?_
  clear hK K
  try simp only [Act.put, lt, l0, ls]
  refine B.Till.next (i := 9) (o := ⟨none, .store 75 (.tmp 15) (.tmp 12), 0, "usage.go:118", #[⟨8, .data⟩, ⟨5, .data⟩, ⟨4, .chain⟩, ⟨0, .phase⟩, ⟨1, .phase⟩, ⟨2, .phase⟩, ⟨3, .phase⟩, ⟨4, .phase⟩, ⟨5, .phase⟩], none⟩) (by kernel_rfl) rfl (fun K hK => ?_)
  refine step_store_mid rfl 75 (.tmp 15) (.tmp 12) rfl cb (6 + d * 2) #[.int .i64 0, .bool c] rfl rfl (HC2.out.there hd) sizeO (open_one c) ?_
  refine hK.out _ _ (fun _ => ((HC2.out.open_ hd c).2.2 B1 _ _ _ (hb2.trans HX.out) (by decide) (by decide)).trans HX.out.symm) ?_
  clear hK K
  try simp only [Act.put, lt, l0, ls]
  refine B.Till.done (by kernel_rfl) ?_
-- TILL 3 END
  have HO := Lib.hid (HC2.out.open_ hd c)
  have HAg2 := Lib.hid (show (w2.setCells cb (6 + d * 2) [.int .i64 0, .bool c]).cell? ⟨cb, 6 + d * 2 + 1, none⟩ = some (.bool c) from World.rangeAt_setCells_same w2 cb (6 + d * 2) [.int .i64 0, .bool c] (HC2.out.there hd) 1 _ rfl)
  have HK3 := Lib.hid (HK2.out.trans HO.out.2)
  have HC3 := Lib.hid HO.out.1
  have HX3 := Lib.hid ((HO.out.2).2 B1 _ _ _ (hb2.trans HX.out) (by decide) (by decide))
  generalize w2.setCells cb (6 + d * 2) [.int .i64 0, .bool c] = w3 at HAg2 HK3 HC3 HX3 ⊢
  clear HO HK2 HC2 hb2 HMt HK0 HLk HX hHeld HC HB1 hB1
  have ca := HAg2.out
  cases c with
  | true =>
    go_wp2_with (refine wpList_arr rfl (.tmp 19) (.tmp 17) rfl cb 6 d hd rfl rfl ?_)
    go_end0
    exact ⟨rfl, wh, ⟨fun _ => rfl, fun q => absurd (HAg.out.1 rfl) q⟩, HC3.out, HK3.out⟩
  | false =>
    go_wp2_with (refine wpList_arr rfl (.tmp 19) (.tmp 17) rfl cb 6 d hd rfl rfl ?_)
    clear ca HAg2
    go_loopw [25] (MeetRel W0 cb mb p H (K ++ [keyV n]) wh ln lv d w w3) (fun v _ => d + 1 - (intOf v).toNat)
    case atStart => exact ⟨0, by omega, rfl, Lib.hid ⟨HC3.out, HK3.out, Kt.refl _⟩⟩
    case round =>
      obtain ⟨i, hi, rfl, HR⟩ := hrel
      have HXr := Lib.hid (HR.out.2.2.2 B1 _ _ _ HX3.out (by decide) (by decide))
      have HN7 := Lib.hid (show ∀ W : World, W.heap[B1]? = wr.heap[B1]? → W.cell? ⟨B1, 7, none⟩ = some (.int .i64 n.blocks) from fun W hW => by rw [cell_of_row _ _ _ _ _ _ (hW.trans HXr.out)]; rfl)
      have HLk := Lib.hid (heap_lt HXr.out)
      have HLc := Lib.hid HR.out.1.lt
      by_cases hlt : i < d + 1
      · obtain ⟨x, bb, hx0, hx, _⟩ := (HR.out.1.cells rfl).2.2.2.2.2.2.2.2.2 i (by omega)
        have HX0 := Lib.hid (show wr.drew.cell? ⟨cb, 6 + i * 2, none⟩ = some (.int .i64 x) from hx0)
        have HNw := Lib.hid (heap_alloc_new wr (.cells #[.int .i64 x, .int .i64 n.blocks] 2))
        have HSl := Lib.hid (show (wr.alloc (.cells #[.int .i64 x, .int .i64 n.blocks] 2)).drew.cell? ⟨wr.heap.size, 0, none⟩ = some (.int .i64 x) ∧ (wr.alloc (.cells #[.int .i64 x, .int .i64 n.blocks] 2)).drew.cell? ⟨wr.heap.size, 1, none⟩ = some (.int .i64 n.blocks) from
          ⟨(cell_of_row _ _ _ _ _ _ HNw.out).trans rfl, (cell_of_row _ _ _ _ _ _ HNw.out).trans rfl⟩)
        have HCr := Lib.hid (HR.out.1.keep (show Below wr.heap.size wr (wr.alloc (.cells #[.int .i64 x, .int .i64 n.blocks] 2)).drew from ((Below.refl _ _).alloc (Nat.le_refl _) _).drew))
        have HSt := Lib.hid (show (wr.alloc (.cells #[.int .i64 x, .int .i64 n.blocks] 2)).drew.cell? ⟨cb, 6 + i * 2, none⟩ = some (.int .i64 x) ∧ (wr.alloc (.cells #[.int .i64 x, .int .i64 n.blocks] 2)).drew.frozen? ⟨cb, 6 + i * 2, none⟩ = false from by
          refine ⟨?_, (HCr.out.cells rfl).2.2.2.2.2.2.2.2.1 _⟩
          have e : (wr.alloc (.cells #[.int .i64 x, .int .i64 n.blocks] 2)).drew.heap[cb]? = wr.heap[cb]? := heap_alloc_old _ _ HLc.out
          unfold World.cell? at hx0 ⊢
          dsimp only at hx0 ⊢
          rw [e]
          exact hx0)
        have HBk := Lib.hid (HCr.out.blocks (show i < 101 by omega) (N.cutZ_bd (x + n.blocks)))
        have HSb := Lib.hid (show ((wr.alloc (.cells #[.int .i64 x, .int .i64 n.blocks] 2)).drew.setCell ⟨cb, 6 + i * 2, none⟩ (.int .i64 (N.cutZ (x + n.blocks)))).heap[B1]? = wr.heap[B1]? from
          (HBk.out.2.2 B1 _ _ _ ((heap_alloc_old _ _ HLk.out).trans HXr.out) (by decide) (by decide)).trans HXr.out.symm)
        clear hx0
        go_upto_region 6 with fail
-- TILL 4
        refine B.Till.region (z := 1000) (S := fun w' => w'.heap[B1]? = wr.heap[B1]?) (by kernel_rfl) rfl (fun hHeld => ?_)
        refine B.Till.takeA (i := 0) (oi := ⟨some 28, .move (.tmp 0), 98, "usage.go:123", #[], none⟩) (v := .pointer (some ⟨cb, 0, none⟩)) rfl (by kernel_rfl) (by kernel_rfl) (by kernel_rfl) (by kernel_rfl) (fun _ _ _ h => h) (Or.inl ⟨by rfl, fun w0 hS0 => ?_⟩) (by assumption) ?_
        · go_simp
        try simp only [Act.put, lt, l0, ls]
        refine B.Till.takeA (i := 1) (oi := ⟨some 29, .move (.tmp 6), 3, "usage.go:123", #[], none⟩) (v := .int .i64 (i : Int)) rfl (by kernel_rfl) (by kernel_rfl) (by kernel_rfl) (by kernel_rfl) (fun _ _ _ h => h) (Or.inl ⟨by rfl, fun w0 hS0 => ?_⟩) (by assumption) ?_
        · go_simp
        try simp only [Act.put, lt, l0, ls]
        refine B.Till.takeA (i := 2) (oi := ⟨some 30, .move (.tmp 0), 98, "usage.go:123", #[], none⟩) (v := .pointer (some ⟨cb, 0, none⟩)) rfl (by kernel_rfl) (by kernel_rfl) (by kernel_rfl) (by kernel_rfl) (fun _ _ _ h => h) (Or.inl ⟨by rfl, fun w0 hS0 => ?_⟩) (by assumption) ?_
        · go_simp
        try simp only [Act.put, lt, l0, ls]
        refine B.Till.takeA (i := 3) (oi := ⟨some 31, .move (.tmp 6), 3, "usage.go:123", #[], none⟩) (v := .int .i64 (i : Int)) rfl (by kernel_rfl) (by kernel_rfl) (by kernel_rfl) (by kernel_rfl) (fun _ _ _ h => h) (Or.inl ⟨by rfl, fun w0 hS0 => ?_⟩) (by assumption) ?_
        · go_simp
        try simp only [Act.put, lt, l0, ls]
        refine B.Till.takeA (i := 4) (oi := ⟨some 32, .nilCheck (.tmp 30), 0, "usage.go:123", #[⟨2, .data⟩], none⟩) (v := .pointer (some ⟨cb, 0, none⟩)) rfl (by kernel_rfl) (by kernel_rfl) (by kernel_rfl) (by kernel_rfl) (fun _ _ _ h => h) (Or.inl ⟨by rfl, fun w0 hS0 => ?_⟩) (by assumption) ?_
        · go_simp
        try simp only [Act.put, lt, l0, ls]
        refine B.Till.takeA (i := 5) (oi := ⟨some 33, .fieldAddr 78 (.tmp 32) 3, 0, "usage.go:123", #[⟨4, .data⟩], none⟩) (v := .pointer (some ⟨cb, 6, none⟩)) rfl (by kernel_rfl) (by kernel_rfl) (by kernel_rfl) (by kernel_rfl) (fun _ _ _ h => h) (Or.inl ⟨by rfl, fun w0 hS0 => ?_⟩) (by assumption) ?_
        · go_simp
        try simp only [Act.put, lt, l0, ls]
        refine B.Till.takeA (i := 6) (oi := ⟨some 34, .indexAddr 76 (.tmp 33) (.tmp 31), 0, "usage.go:123", #[⟨5, .data⟩, ⟨3, .data⟩], none⟩) (v := .pointer (some ⟨cb, 6 + i * 2, none⟩)) rfl (by kernel_rfl) (by kernel_rfl) (by kernel_rfl) (by kernel_rfl) (fun _ _ _ h => h) (Or.inl ⟨by rfl, fun w0 hS0 => exec_arr (.tmp 33) (.tmp 31) rfl cb 6 i (by omega) rfl rfl⟩) (by assumption) ?_
        try simp only [Act.put, lt, l0, ls]
        refine B.Till.takeA (i := 7) (oi := ⟨some 35, .fieldAddr 75 (.tmp 34) 0, 0, "usage.go:123", #[⟨6, .data⟩], none⟩) (v := .pointer (some ⟨cb, 6 + i * 2, none⟩)) rfl (by kernel_rfl) (by kernel_rfl) (by kernel_rfl) (by kernel_rfl) (fun _ _ _ h => h) (Or.inl ⟨by rfl, fun w0 hS0 => ?_⟩) (by assumption) ?_
        · go_simp
        try simp only [Act.put, lt, l0, ls]
        refine B.Till.takeA (i := 9) (oi := ⟨some 37, .fieldAddr 36 (.tmp 5) 7, 0, "usage.go:123", #[], none⟩) (v := .pointer (some ⟨B1, 7, none⟩)) rfl (by kernel_rfl) (by kernel_rfl) (by kernel_rfl) (by kernel_rfl) (fun _ _ _ h => h) (Or.inl ⟨by rfl, fun w0 hS0 => ?_⟩) (by assumption) ?_
        · go_simp
        try simp only [Act.put, lt, l0, ls]
        refine B.Till.takeA (i := 10) (oi := ⟨some 38, .load 2 (.tmp 37), 2, "usage.go:123", #[⟨9, .data⟩], none⟩) (v := .int .i64 n.blocks) rfl (by kernel_rfl) (by kernel_rfl) (by kernel_rfl) (by kernel_rfl) (fun _ _ _ h => h) (Or.inl ⟨by rfl, fun w0 hS0 => ?_⟩) (by assumption) ?_
        · have n7 := HN7.out _ hS0; go_simp
        try simp only [Act.put, lt, l0, ls]
        refine B.Till.takeA (i := 13) (oi := ⟨some 41, .nilCheck (.tmp 28), 0, "usage.go:123", #[⟨0, .data⟩], none⟩) (v := .pointer (some ⟨cb, 0, none⟩)) rfl (by kernel_rfl) (by kernel_rfl) (by kernel_rfl) (by kernel_rfl) (fun _ _ _ h => h) (Or.inl ⟨by rfl, fun w0 hS0 => ?_⟩) (by assumption) ?_
        · go_simp
        try simp only [Act.put, lt, l0, ls]
        refine B.Till.takeA (i := 14) (oi := ⟨some 42, .fieldAddr 78 (.tmp 41) 3, 0, "usage.go:123", #[⟨13, .data⟩], none⟩) (v := .pointer (some ⟨cb, 6, none⟩)) rfl (by kernel_rfl) (by kernel_rfl) (by kernel_rfl) (by kernel_rfl) (fun _ _ _ h => h) (Or.inl ⟨by rfl, fun w0 hS0 => ?_⟩) (by assumption) ?_
        · go_simp
        try simp only [Act.put, lt, l0, ls]
        refine B.Till.next (i := 8) (o := ⟨some 36, .load 2 (.tmp 35), 2, "usage.go:123", #[⟨7, .data⟩], none⟩) (by kernel_rfl) rfl (fun K hK => ?_)
        have cx := HX0.out
        go_simp
        refine hK.out _ _ (fun _ => hHeld) ?_
        clear hK K
        try simp only [Act.put, lt, l0, ls]
        refine B.Till.next (i := 11) (o := ⟨some 39, .buildSlice 130 2 #[(0, .tmp 36), (1, .tmp 38)], 130, "usage.go:123", #[⟨8, .data⟩, ⟨10, .data⟩], none⟩) (by kernel_rfl) rfl (fun K hK => ?_)
        go_simp
        refine hK.out _ _ (fun _ => (heap_alloc_old _ _ HLk.out).trans hHeld) ?_
        clear hK K
        try simp only [Act.put, lt, l0, ls]
        refine B.Till.next (i := 12) (o := ⟨some 40, .call ⟨.value (.func 55), #[.tmp 39], #[130]⟩, 2, "usage.go:123", #[⟨11, .data⟩], none⟩) (by kernel_rfl) rfl (fun K hK => ?_)
        go_simp
        refine (add2_any x n.blocks _ _ HSl.out.1 HSl.out.2 hx h3).mono ?_
        rintro e wz ⟨rfl, rfl⟩
        go_wp2_with fail
        refine hK.out _ _ (fun _ => (heap_alloc_old _ _ HLk.out).trans hHeld) ?_
        clear hK K
        try simp only [Act.put, lt, l0, ls]
        refine B.Till.next (i := 15) (o := ⟨some 43, .indexAddr 76 (.tmp 42) (.tmp 29), 0, "usage.go:123", #[⟨14, .data⟩, ⟨1, .data⟩, ⟨0, .phase⟩, ⟨1, .phase⟩, ⟨2, .phase⟩, ⟨3, .phase⟩, ⟨4, .phase⟩, ⟨5, .phase⟩, ⟨6, .phase⟩, ⟨7, .phase⟩, ⟨8, .phase⟩, ⟨9, .phase⟩, ⟨10, .phase⟩, ⟨11, .phase⟩, ⟨12, .phase⟩], none⟩) (by kernel_rfl) rfl (fun K hK => ?_)
        refine step_arr rfl (.tmp 42) (.tmp 29) rfl cb 6 i (by omega) rfl rfl ?_
        refine hK.out _ _ (fun _ => (heap_alloc_old _ _ HLk.out).trans hHeld) ?_
        clear hK K
        try simp only [Act.put, lt, l0, ls]
        refine B.Till.next (i := 16) (o := ⟨some 44, .fieldAddr 75 (.tmp 43) 0, 0, "usage.go:123", #[⟨15, .data⟩, ⟨0, .phase⟩, ⟨1, .phase⟩, ⟨2, .phase⟩, ⟨3, .phase⟩, ⟨4, .phase⟩, ⟨5, .phase⟩, ⟨6, .phase⟩, ⟨7, .phase⟩, ⟨8, .phase⟩, ⟨9, .phase⟩, ⟨10, .phase⟩, ⟨11, .phase⟩, ⟨12, .phase⟩], none⟩) (by kernel_rfl) rfl (fun K hK => ?_)
        go_simp
        refine hK.out _ _ (fun _ => (heap_alloc_old _ _ HLk.out).trans hHeld) ?_
        clear hK K
        try simp only [Act.put, lt, l0, ls]
        refine B.Till.next (i := 17) (o := ⟨none, .store 2 (.tmp 44) (.tmp 40), 0, "usage.go:123", #[⟨16, .data⟩, ⟨12, .data⟩, ⟨12, .chain⟩, ⟨0, .phase⟩, ⟨1, .phase⟩, ⟨2, .phase⟩, ⟨3, .phase⟩, ⟨4, .phase⟩, ⟨5, .phase⟩, ⟨6, .phase⟩, ⟨7, .phase⟩, ⟨8, .phase⟩, ⟨9, .phase⟩, ⟨10, .phase⟩, ⟨11, .phase⟩, ⟨12, .phase⟩], none⟩) (by kernel_rfl) rfl (fun K hK => ?_)
        have cx := HSt.out.1
        have fx := HSt.out.2
        go_simp
        refine hK.out _ _ (fun _ => HSb.out) ?_
        clear hK K
        try simp only [Act.put, lt, l0, ls]
        refine B.Till.done (by kernel_rfl) ?_
-- TILL 4 END
        have HK5 := Lib.hid (And.intro (HR.out.2.1.trans ((Kt.of_below (show Below wr.heap.size wr (wr.alloc (.cells #[.int .i64 x, .int .i64 n.blocks] 2)).drew from ((Below.refl _ _).alloc (Nat.le_refl _) _).drew)).trans HBk.out.2)) (HR.out.2.2.trans ((Kt.of_below (show Below wr.heap.size wr (wr.alloc (.cells #[.int .i64 x, .int .i64 n.blocks] 2)).drew from ((Below.refl _ _).alloc (Nat.le_refl _) _).drew)).trans HBk.out.2)))
        have HC5 := Lib.hid HBk.out.1
        clear HSb HBk HSt HCr HSl HNw HX0 cx fx hHeld
        go_wp2_with fail
        go_round
        case rel => exact ⟨i + 1, by omega, by go_num, Lib.hid ⟨HC5.out, HK5.out.1, HK5.out.2⟩⟩
        case measure => simp [intOf]; omega
      · obtain rfl : i = d + 1 := by omega
        have HCc := Lib.hid (fun W hW => HR.out.1.cells (W := W) hW)
        have HNw := Lib.hid (heap_alloc_new wr (.cells #[.int .i64 wh, .int .i64 n.blocks] 2))
        have HSl := Lib.hid (show (wr.alloc (.cells #[.int .i64 wh, .int .i64 n.blocks] 2)).drew.cell? ⟨wr.heap.size, 0, none⟩ = some (.int .i64 wh) ∧ (wr.alloc (.cells #[.int .i64 wh, .int .i64 n.blocks] 2)).drew.cell? ⟨wr.heap.size, 1, none⟩ = some (.int .i64 n.blocks) from
          ⟨(cell_of_row _ _ _ _ _ _ HNw.out).trans rfl, (cell_of_row _ _ _ _ _ _ HNw.out).trans rfl⟩)
        have HBl := Lib.hid (show Below wr.heap.size wr (wr.alloc (.cells #[.int .i64 wh, .int .i64 n.blocks] 2)).drew from ((Below.refl _ _).alloc (Nat.le_refl _) _).drew)
        have HCr := Lib.hid (HR.out.1.keep HBl.out)
        have HSt := Lib.hid (show (wr.alloc (.cells #[.int .i64 wh, .int .i64 n.blocks] 2)).drew.cell? ⟨cb, 208, none⟩ = some (.int .i64 wh) ∧ (wr.alloc (.cells #[.int .i64 wh, .int .i64 n.blocks] 2)).drew.frozen? ⟨cb, 208, none⟩ = false from ⟨(HCr.out.cells rfl).2.2.2.2.2.2.1, (HCr.out.cells rfl).2.2.2.2.2.2.2.2.1 _⟩)
        have HBk := Lib.hid (HCr.out.whole (N.cutZ (wh + n.blocks)))
        go_upto_region 8 with fail
-- TILL 5
        refine B.Till.region (z := 11) (S := fun w' => w'.heap[cb]? = wr.heap[cb]? ∧ w'.heap[B1]? = wr.heap[B1]?) (by kernel_rfl) ⟨rfl, rfl⟩ (fun hHeld => ?_)
        refine B.Till.take (i := 0) (oi := ⟨some 46, .move (.tmp 0), 98, "usage.go:125", #[], none⟩) (v := .pointer (some ⟨cb, 0, none⟩)) rfl (by kernel_rfl) (by kernel_rfl) (by kernel_rfl) (by kernel_rfl) (fun _ _ _ h => h) (Or.inl ⟨by rfl, fun w0 hS0 => ?_⟩) (by assumption) ?_
        · go_simp
        try simp only [Act.put, lt, l0, ls]
        refine B.Till.take (i := 1) (oi := ⟨some 47, .move (.tmp 0), 98, "usage.go:125", #[], none⟩) (v := .pointer (some ⟨cb, 0, none⟩)) rfl (by kernel_rfl) (by kernel_rfl) (by kernel_rfl) (by kernel_rfl) (fun _ _ _ h => h) (Or.inl ⟨by rfl, fun w0 hS0 => ?_⟩) (by assumption) ?_
        · go_simp
        try simp only [Act.put, lt, l0, ls]
        refine B.Till.take (i := 2) (oi := ⟨some 48, .nilCheck (.tmp 47), 0, "usage.go:125", #[⟨1, .data⟩], none⟩) (v := .pointer (some ⟨cb, 0, none⟩)) rfl (by kernel_rfl) (by kernel_rfl) (by kernel_rfl) (by kernel_rfl) (fun _ _ _ h => h) (Or.inl ⟨by rfl, fun w0 hS0 => ?_⟩) (by assumption) ?_
        · go_simp
        try simp only [Act.put, lt, l0, ls]
        refine B.Till.take (i := 3) (oi := ⟨some 49, .fieldAddr 78 (.tmp 48) 4, 0, "usage.go:125", #[⟨2, .data⟩], none⟩) (v := .pointer (some ⟨cb, 208, none⟩)) rfl (by kernel_rfl) (by kernel_rfl) (by kernel_rfl) (by kernel_rfl) (fun _ _ _ h => h) (Or.inl ⟨by rfl, fun w0 hS0 => ?_⟩) (by assumption) ?_
        · go_simp
        try simp only [Act.put, lt, l0, ls]
        refine B.Till.take (i := 4) (oi := ⟨some 50, .load 2 (.tmp 49), 2, "usage.go:125", #[⟨3, .data⟩], none⟩) (v := .int .i64 wh) rfl (by kernel_rfl) (by kernel_rfl) (by kernel_rfl) (by kernel_rfl) (fun _ _ _ h => h) (Or.inl ⟨by rfl, fun w0 hS0 => ?_⟩) (by assumption) ?_
        · have c208 := (HCc.out _ hS0.1).2.2.2.2.2.2.1; go_simp
        try simp only [Act.put, lt, l0, ls]
        refine B.Till.take (i := 5) (oi := ⟨some 51, .fieldAddr 36 (.tmp 5) 7, 0, "usage.go:125", #[], none⟩) (v := .pointer (some ⟨B1, 7, none⟩)) rfl (by kernel_rfl) (by kernel_rfl) (by kernel_rfl) (by kernel_rfl) (fun _ _ _ h => h) (Or.inl ⟨by rfl, fun w0 hS0 => ?_⟩) (by assumption) ?_
        · go_simp
        try simp only [Act.put, lt, l0, ls]
        refine B.Till.take (i := 6) (oi := ⟨some 52, .load 2 (.tmp 51), 2, "usage.go:125", #[⟨5, .data⟩], none⟩) (v := .int .i64 n.blocks) rfl (by kernel_rfl) (by kernel_rfl) (by kernel_rfl) (by kernel_rfl) (fun _ _ _ h => h) (Or.inl ⟨by rfl, fun w0 hS0 => ?_⟩) (by assumption) ?_
        · have n7 := HN7.out _ hS0.2; go_simp
        try simp only [Act.put, lt, l0, ls]
        refine B.Till.next (i := 7) (o := ⟨some 53, .buildSlice 130 2 #[(0, .tmp 50), (1, .tmp 52)], 130, "usage.go:125", #[⟨4, .data⟩, ⟨6, .data⟩], none⟩) (by kernel_rfl) rfl (fun K hK => ?_)
        go_simp
        refine hK.out _ _ (fun _ => ⟨(heap_alloc_old _ _ HLc.out).trans hHeld.1, (heap_alloc_old _ _ HLk.out).trans hHeld.2⟩) ?_
        clear hK K
        try simp only [Act.put, lt, l0, ls]
        refine B.Till.next (i := 8) (o := ⟨some 54, .call ⟨.value (.func 55), #[.tmp 53], #[130]⟩, 2, "usage.go:125", #[⟨7, .data⟩], none⟩) (by kernel_rfl) rfl (fun K hK => ?_)
        go_simp
        refine (add2_any wh n.blocks _ _ HSl.out.1 HSl.out.2 h4 h3).mono ?_
        rintro e wz ⟨rfl, rfl⟩
        go_wp2_with fail
        refine hK.out _ _ (fun _ => ⟨(heap_alloc_old _ _ HLc.out).trans hHeld.1, (heap_alloc_old _ _ HLk.out).trans hHeld.2⟩) ?_
        clear hK K
        try simp only [Act.put, lt, l0, ls]
        refine B.Till.next (i := 9) (o := ⟨some 55, .nilCheck (.tmp 46), 0, "usage.go:125", #[⟨0, .data⟩, ⟨0, .phase⟩, ⟨1, .phase⟩, ⟨2, .phase⟩, ⟨3, .phase⟩, ⟨4, .phase⟩, ⟨5, .phase⟩, ⟨6, .phase⟩, ⟨7, .phase⟩, ⟨8, .phase⟩], none⟩) (by kernel_rfl) rfl (fun K hK => ?_)
        go_simp
        refine hK.out _ _ (fun _ => ⟨(heap_alloc_old _ _ HLc.out).trans hHeld.1, (heap_alloc_old _ _ HLk.out).trans hHeld.2⟩) ?_
        clear hK K
        try simp only [Act.put, lt, l0, ls]
        refine B.Till.next (i := 10) (o := ⟨some 56, .fieldAddr 78 (.tmp 55) 4, 0, "usage.go:125", #[⟨9, .data⟩, ⟨0, .phase⟩, ⟨1, .phase⟩, ⟨2, .phase⟩, ⟨3, .phase⟩, ⟨4, .phase⟩, ⟨5, .phase⟩, ⟨6, .phase⟩, ⟨7, .phase⟩, ⟨8, .phase⟩], none⟩) (by kernel_rfl) rfl (fun K hK => ?_)
        go_simp
        refine hK.out _ _ (fun _ => ⟨(heap_alloc_old _ _ HLc.out).trans hHeld.1, (heap_alloc_old _ _ HLk.out).trans hHeld.2⟩) ?_
        clear hK K
        try simp only [Act.put, lt, l0, ls]
        refine B.Till.next (i := 11) (o := ⟨none, .store 2 (.tmp 56) (.tmp 54), 0, "usage.go:125", #[⟨10, .data⟩, ⟨8, .data⟩, ⟨8, .chain⟩, ⟨0, .phase⟩, ⟨1, .phase⟩, ⟨2, .phase⟩, ⟨3, .phase⟩, ⟨4, .phase⟩, ⟨5, .phase⟩, ⟨6, .phase⟩, ⟨7, .phase⟩, ⟨8, .phase⟩], none⟩) (by kernel_rfl) rfl (fun K hK => ?_)
        have cx := HSt.out.1
        have fx := HSt.out.2
        go_simp
        refine hK.out _ _ (fun q => absurd rfl q) ?_
        clear hK K
        try simp only [Act.put, lt, l0, ls]
        refine B.Till.done (by kernel_rfl) ?_
-- TILL 5 END
        go_wp2_with fail
        go_end0
        exact ⟨rfl, _, ⟨fun q => absurd (HAg.out.2 q) (by decide), fun _ => rfl⟩, HBk.out.1, HR.out.2.1.trans ((Kt.of_below HBl.out).trans HBk.out.2)⟩
end
end Go.Proofs.YtpikndeefiediaaGreatDoor.U
