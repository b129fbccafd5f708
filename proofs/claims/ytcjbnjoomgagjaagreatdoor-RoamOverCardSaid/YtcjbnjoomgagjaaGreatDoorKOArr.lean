/-
  What the program's closure that arranges a part of the places does: the part is sorted. Conditions: the keys, the places and the spare row lie in memory.
-/
import Derived.Test.YtcjbnjoomgagjaaGreatDoorKOArrS
set_option linter.unusedVariables false
namespace Go.Proofs.YtcjbnjoomgagjaaGreatDoor.O
open Go.Proofs.YtcjbnjoomgagjaaGreatDoor.B
open Go.RowKit

theorem sizeInt : (Tryz.prog.info? 3).map (·.size) = some 1 := by kernel_rfl
theorem one_cells (Z : List Nat) : ∀ v ∈ natsV Z, v.oneCell' = true := fun v hv => by
  unfold natsV at hv
  obtain ⟨i, _, rfl⟩ := List.mem_map.1 hv
  rfl
theorem copy_src {C : Cfg} {Z r T X : List Nat} {f : Nat} {W : World} (h : SI C (Z.take f ++ (r ++ T)) X W) (hf : f ≤ Z.length) {j : Nat} {v : Value} (hv : (natsV r)[j]? = some v) : W.cell? ((⟨C.gp, f, none⟩ : Addr).add j) = some v := by
  have hadd : (⟨C.gp, f, none⟩ : Addr).add j = ⟨C.gp, f + j, none⟩ := by unfold Addr.add; split <;> simp_all
  rw [hadd]
  unfold natsV at hv
  rw [List.getElem?_map] at hv
  cases e : r[j]? with
  | none => rw [e] at hv; cases hv
  | some x =>
    rw [e] at hv
    obtain rfl := Option.some.inj hv
    have hlt := (List.getElem?_eq_some_iff.1 e).1
    exact h.place (by rw [List.getElem?_append_right (by rw [List.length_take]; omega), List.length_take, show f + j - min f Z.length = j by omega, List.getElem?_append_left hlt, e])
def ArrRel (C : Cfg) (F : Nat → Nat → Bool) (r1 r2 T FZ X3 : List Nat) (f h : Nat) (v9 v10 v11 : Value) (wr : World) : Prop :=
  ∃ (p q : Nat) (Zc : List Nat) (i j a : Nat), Hid (i = f + p ∧ j = h + q ∧ a = f + p + q) ∧ v9 = .int .i64 (i : Int) ∧ v10 = .int .i64 (j : Int) ∧ v11 = .int .i64 (a : Int) ∧ Hid (MI F r1 r2 T FZ f h C.l.length p q Zc) ∧ Hid (SI C Zc X3 wr)
set_option maxRecDepth 100000 in
set_option maxHeartbeats 8000000 in
theorem arr_few (C : Cfg) (ok : CfgOK C) (f t : Nat) (Z X : List Nat) (W : World) (h2 : t - f < 2) (hft : f ≤ t) (htn : t ≤ C.l.length) (hSI : SI C Z X W) (hk : ∀ k, f ≤ k → k < t → Z[k]? = some k) :
    Calls Tryz.prog 76 #[.int .i64 (f : Int), .int .i64 (t : Int), .pointer (some ⟨C.ba, 0, none⟩), .pointer (some ⟨C.bs, 0, none⟩), .pointer (some ⟨C.bp, 0, none⟩), .pointer (some ⟨C.bc, 0, none⟩)] W fun e W' =>
      ∃ v r X', e = .returned v ∧ SortOf (aheadL (soC C.o C.rev C.dirs) C.l) (List.range' f (t - f)) r ∧ SI C (Z.take f ++ (r ++ Z.drop t)) X' W' := by
  have hfew := ok.few
  have lz := hSI.lz
  have d2 : decide ((t : Int) - (f : Int) < 2) = true := decide_eq_true (by omega)
  have HE := Lib.hid (arr_small hft (by omega) hk)
  have HS := Lib.hid hSI
  have HO := Lib.hid (SortOf.one (A := aheadL (soC C.o C.rev C.dirs) C.l) (xs := List.range' f (t - f)) (by rw [List.length_range']; omega))
  clear hSI hk
  go_enter Tryz.func76, Tryz.ntmps76
  go_wp2_with fail
  (try simp only [Exit.inBlock, Exit.then]); refine bodyPost_ret (results_none rfl _ _ _) rfl ?_
  exact ⟨_, _, X, rfl, HO.out, by rw [HE.out]; exact HS.out⟩
set_option maxRecDepth 100000 in
set_option maxHeartbeats 8000000 in
theorem arr_any (C : Cfg) (ok : CfgOK C) : ∀ (d f t : Nat) (Z X : List Nat) (W : World), t - f ≤ d → f ≤ t → t ≤ C.l.length → SI C Z X W → (∀ k, f ≤ k → k < t → Z[k]? = some k) →
    Calls Tryz.prog 76 #[.int .i64 (f : Int), .int .i64 (t : Int), .pointer (some ⟨C.ba, 0, none⟩), .pointer (some ⟨C.bs, 0, none⟩), .pointer (some ⟨C.bp, 0, none⟩), .pointer (some ⟨C.bc, 0, none⟩)] W fun e W' =>
      ∃ v r X', e = .returned v ∧ SortOf (aheadL (soC C.o C.rev C.dirs) C.l) (List.range' f (t - f)) r ∧ SI C (Z.take f ++ (r ++ Z.drop t)) X' W' := by
  intro d
  induction d with
  | zero => exact fun f t Z X W hd hft htn hSI hk => arr_few C ok f t Z X W (by omega) hft htn hSI hk
  | succ d ih =>
    intro f t Z X W hd hft htn hSI hk
    have hfew := ok.few
    have lz := hSI.lz
    have lx := hSI.lx
    by_cases h2 : t - f < 2
    · exact arr_few C ok f t Z X W h2 hft htn hSI hk
    · have d2 : decide ((t : Int) - (f : Int) < 2) = false := decide_eq_false (by omega)
      obtain ⟨h, hh⟩ : ∃ h, f + (t - f) / 2 = h := ⟨_, rfl⟩
      have hfh : f < h := by omega
      have hht : h < t := by omega
      have hdiv : ((t : Int) - (f : Int)).tdiv 2 = (h : Int) - (f : Int) := by rw [Int.tdiv_eq_ediv_of_nonneg (by omega)]; omega
      have hdiv2 : ((t : Int) - (f : Int)) / 2 = (h : Int) - (f : Int) := by omega
      have HS := Lib.hid hSI
      have HI := Lib.hid ih
      have HK := Lib.hid hk
      clear ih hk hSI
      have c0 := HS.out.xa.cell
      unfold arrV at c0
      have hsum : (f : Int) + ((h : Int) - (f : Int)) = (h : Int) := by omega
      go_enter Tryz.func76, Tryz.ntmps76
      go_wp2_with fail
      refine (HI.out f h Z X W (by omega) (by omega) (by omega) HS.out (fun k h1 h3 => HK.out k h1 (by omega))).mono ?_
      rintro e W1 ⟨v1, r1, X1, rfl, ho1, hs1⟩
      have n1 : r1.length = h - f := by have := sort_len ho1; rwa [List.length_range'] at this
      have HO1 := Lib.hid ho1
      have HS1 := Lib.hid hs1
      have HK1 := Lib.hid (arr_right (r := r1) (h := h) (t := t) (by omega) (by omega) (by omega) n1 HK.out)
      have e1 : (Z.take f ++ (r1 ++ Z.drop h)).length = C.l.length := HS1.out.lz
      have HT := Lib.hid (fun r2 => arr_two (Z := Z) (r1 := r1) (r2 := r2) (f := f) (h := h) (t := t) (by omega) (by omega) (by omega) n1)
      clear ho1 hs1 HK c0
      have c0 := HS1.out.xa.cell
      unfold arrV at c0
      go_wp2_with fail
      refine (HI.out h t _ X1 W1 (by omega) (by omega) (by omega) HS1.out HK1.out).mono ?_
      rintro e W2 ⟨v2, r2, X2, rfl, ho2, hs2⟩
      rw [HT.out] at hs2
      have n2 : r2.length = t - h := by have := sort_len ho2; rwa [List.length_range'] at this
      have HO2 := Lib.hid ho2
      have HS2 := Lib.hid hs2
      clear ho2 hs2 HK1 HS1 HS HI HT c0 e1
      go_upto_region 4 with fail
      have HSd := Lib.hid (HS2.out.keep ((Below.refl _ _).drew))
      have lx2 := HS2.out.lx
      have HRd := Lib.hid (show ∀ j v, (natsV r1)[j]? = some v → W2.drew.cell? ((⟨C.gp, f, none⟩ : Addr).add j) = some v from fun j v hv => copy_src HSd.out (by omega) hv)
      have HS3 := Lib.hid (HSd.out.setS ok f r1 (by omega))
      have q1 : h ≤ C.l.length := by omega
      have q2 : f ≤ h := by omega
      have q3 : ¬ (C.l.length = f) := by omega
-- TILL 4
      refine Till.region (z := 1000) (S := fun w' => w'.cell? ⟨C.bs, 0, none⟩ = some (.slice (some ⟨C.gs, 0, none⟩) C.l.length C.l.length) ∧ w'.cell? ⟨C.bp, 0, none⟩ = some (.slice (some ⟨C.gp, 0, none⟩) C.l.length C.l.length)) (by kernel_rfl) ⟨HSd.out.xs.cell, HSd.out.xp.cell⟩ (fun hHeld => ?_)
      refine Till.takeA (i := 0) (oi := { dst := some 30, op := Op.load 32 (Operand.tmp 3), type := 32, pos := "order.go:66", after := #[], guard := none }) (v := .slice (some ⟨C.gs, 0, none⟩) C.l.length C.l.length) rfl (by kernel_rfl) (by kernel_rfl) (by kernel_rfl) (by rfl) (fun _ _ _ h => h) (Or.inl ⟨by rfl, fun w0 hS0 => ?_⟩) (by assumption) ?_
      · have q := hS0.1; go_simp
      try simp only [Act.put, List.setIfInBounds_toArray, List.set_cons_zero, List.set_cons_succ]
      refine Till.takeA (i := 1) (oi := { dst := some 31, op := Op.move (Operand.tmp 0), type := 3, pos := "order.go:66", after := #[], guard := none }) (v := .int .i64 (f : Int)) rfl (by kernel_rfl) (by kernel_rfl) (by kernel_rfl) (by rfl) (fun _ _ _ h => h) (Or.inl ⟨by rfl, fun w0 hS0 => ?_⟩) (by assumption) ?_
      · go_simp
      try simp only [Act.put, List.setIfInBounds_toArray, List.set_cons_zero, List.set_cons_succ]
      refine Till.takeA (i := 2) (oi := { dst := some 32, op := Op.move (Operand.tmp 8), type := 3, pos := "order.go:66", after := #[], guard := none }) (v := .int .i64 (h : Int)) rfl (by kernel_rfl) (by kernel_rfl) (by kernel_rfl) (by rfl) (fun _ _ _ h => h) (Or.inl ⟨by rfl, fun w0 hS0 => ?_⟩) (by assumption) ?_
      · go_simp
      try simp only [Act.put, List.setIfInBounds_toArray, List.set_cons_zero, List.set_cons_succ]
      refine Till.takeA (i := 3) (oi := { dst := some 33, op := Op.slice 32 (Operand.tmp 30) (some (Operand.tmp 31)) (some (Operand.tmp 32)) none, type := 32, pos := "order.go:66", after := #[{ on := 0, ground := Ground.data }, { on := 1, ground := Ground.data }, { on := 2, ground := Ground.data }], guard := none }) (v := .slice (some ⟨C.gs, f, none⟩) (h - f) (C.l.length - f)) rfl (by kernel_rfl) (by kernel_rfl) (by kernel_rfl) (by rfl) (fun _ _ _ h => h) (Or.inl ⟨by rfl, fun w0 hS0 => ?_⟩) (by assumption) ?_
      · go_simp
      try simp only [Act.put, List.setIfInBounds_toArray, List.set_cons_zero, List.set_cons_succ]
      refine Till.takeA (i := 4) (oi := { dst := some 34, op := Op.load 32 (Operand.tmp 4), type := 32, pos := "order.go:66", after := #[], guard := none }) (v := .slice (some ⟨C.gp, 0, none⟩) C.l.length C.l.length) rfl (by kernel_rfl) (by kernel_rfl) (by kernel_rfl) (by rfl) (fun _ _ _ h => h) (Or.inl ⟨by rfl, fun w0 hS0 => ?_⟩) (by assumption) ?_
      · have q := hS0.2; go_simp
      try simp only [Act.put, List.setIfInBounds_toArray, List.set_cons_zero, List.set_cons_succ]
      refine Till.takeA (i := 5) (oi := { dst := some 35, op := Op.move (Operand.tmp 0), type := 3, pos := "order.go:66", after := #[], guard := none }) (v := .int .i64 (f : Int)) rfl (by kernel_rfl) (by kernel_rfl) (by kernel_rfl) (by rfl) (fun _ _ _ h => h) (Or.inl ⟨by rfl, fun w0 hS0 => ?_⟩) (by assumption) ?_
      · go_simp
      try simp only [Act.put, List.setIfInBounds_toArray, List.set_cons_zero, List.set_cons_succ]
      refine Till.takeA (i := 6) (oi := { dst := some 36, op := Op.move (Operand.tmp 8), type := 3, pos := "order.go:66", after := #[], guard := none }) (v := .int .i64 (h : Int)) rfl (by kernel_rfl) (by kernel_rfl) (by kernel_rfl) (by rfl) (fun _ _ _ h => h) (Or.inl ⟨by rfl, fun w0 hS0 => ?_⟩) (by assumption) ?_
      · go_simp
      try simp only [Act.put, List.setIfInBounds_toArray, List.set_cons_zero, List.set_cons_succ]
      refine Till.takeA (i := 7) (oi := { dst := some 37, op := Op.slice 32 (Operand.tmp 34) (some (Operand.tmp 35)) (some (Operand.tmp 36)) none, type := 32, pos := "order.go:66", after := #[{ on := 4, ground := Ground.data }, { on := 5, ground := Ground.data }, { on := 6, ground := Ground.data }], guard := none }) (v := .slice (some ⟨C.gp, f, none⟩) (h - f) (C.l.length - f)) rfl (by kernel_rfl) (by kernel_rfl) (by kernel_rfl) (by rfl) (fun _ _ _ h => h) (Or.inl ⟨by rfl, fun w0 hS0 => ?_⟩) (by assumption) ?_
      · go_simp
      try simp only [Act.put, List.setIfInBounds_toArray, List.set_cons_zero, List.set_cons_succ]
      refine Till.next (i := 8) (o := { dst := some 38, op := Op.call { callee := Callee.builtin Builtin.copy, args := #[Operand.tmp 33, Operand.tmp 37], argTypes := #[32, 32] }, type := 3, pos := "order.go:66", after := #[{ on := 3, ground := Ground.data }, { on := 7, ground := Ground.data }], guard := none }) (by kernel_rfl) rfl (fun K hK => ?_)
      refine step_copy_row rfl (.tmp 33) (.tmp 37) 32 32 rfl 3 Tryz.underlying32 sizeInt C.gs f (h - f) (C.l.length - f) ⟨C.gp, f, none⟩ (h - f) (C.l.length - f) rfl rfl (natsV X2) 3 HSd.out.sp (natsV r1) (by rw [natsV_len]; show r1.length = min (h - f) (h - f); omega) HRd.out (by rw [natsV_len, natsV_len]; omega) (one_cells r1) ?_
      refine hK.out _ _ (fun _ => ⟨(HS3.out.xs).cell, (HS3.out.xp).cell⟩) ?_
      clear hK K
      try simp only [Act.put, List.setIfInBounds_toArray, List.set_cons_zero, List.set_cons_succ]
      refine Till.done (by kernel_rfl) ?_
-- TILL 4 END
      have HSp := Lib.hid (fun k x => splice_get (X := X2) (cs := r1) (off := f) (k := k) (x := x) (by omega))
      generalize splice X2 f r1 = X3 at HS3 HSp
      generalize W2.drew.setRow C.gs ((natsV X2).take f ++ (natsV r1 ++ (natsV X2).drop (f + (natsV r1).length))).toArray = W3 at HS3 ⊢
      clear HSd HRd HS2
      have hz2 := HS3.out.lz
      have HM := Lib.hid (MI.start (aheadL (soC C.o C.rev C.dirs) C.l) r1 r2 (Z.take f) (Z.drop t) f h C.l.length (by rw [List.length_take]; omega) (by omega) hz2)
      have HF := Lib.hid (arr_halves (ahead_strict (soC_tot C.o C.rev C.dirs) C.l C.l.length) (by omega) (by omega) htn HO1.out HO2.out)
      have HP := Lib.hid (fun x y (hxy : x < y) => pick_left (soC_tot C.o C.rev C.dirs) C.l hxy)
      have HQ1 := Lib.hid (fun k x hx => sort_mem HO1.out (k := k) (x := x) hx)
      have HQ2 := Lib.hid (fun k x hx => sort_mem HO2.out (k := k) (x := x) hx)
      clear HO1 HO2 hz2
      generalize Z.take f ++ (r1 ++ (r2 ++ Z.drop t)) = Z3 at HS3 HM
      go_wp2_with fail
      go_loopw [9, 10, 11] (ArrRel C (aheadL (soC C.o C.rev C.dirs) C.l) r1 r2 (Z.drop t) (Z.take f ++ (mergeL (aheadL (soC C.o C.rev C.dirs) C.l) r1 r2 ++ Z.drop t)) X3 f h) (fun v9 v10 _ _ => (h + t) - ((intOf v9).toNat + (intOf v10).toNat))
      case atStart => exact ⟨0, 0, Z3, f, h, f, Lib.hid ⟨rfl, rfl, rfl⟩, rfl, rfl, rfl, HM, HS3⟩
      case round =>
        obtain ⟨p, q, Zc, i, j, a, HJ, rfl, rfl, rfl, HMr, HSr⟩ := hrel
        have HL := Lib.hid (And.intro HMr.out.lp HMr.out.lq)
        have bi : i ≤ h := by have := HJ.out; have := HL.out; omega
        have bj : j ≤ t := by have := HJ.out; have := HL.out; omega
        have lzc := HSr.out.lz
        clear HM HS3
        by_cases g1 : i < h
        · have d1 : decide ((i : Int) < (h : Int)) = true := decide_eq_true (by omega)
          obtain ⟨x, hx⟩ : ∃ x, r1[p]? = some x := ⟨_, List.getElem?_eq_getElem (by have := HJ.out; have := HL.out; omega)⟩
          have ba : a < C.l.length := by have := HJ.out; have := HL.out; omega
          have ilt : i < C.l.length := by omega
          obtain ⟨z0, hz0⟩ : ∃ z0, Zc[a]? = some z0 := ⟨_, List.getElem?_eq_getElem (by omega)⟩
          have HZ0 := Lib.hid hz0
          clear hz0
          have HX := Lib.hid hx
          have HXi := Lib.hid (show X3[i]? = some x by rw [HJ.out.1]; exact HSp.out p x hx)
          have bx := HQ1.out p x hx
          clear hx
          by_cases g2 : j < t
          · have d2 : decide ((j : Int) < (t : Int)) = true := decide_eq_true (by omega)
            obtain ⟨y, hy⟩ : ∃ y, r2[q]? = some y := ⟨_, List.getElem?_eq_getElem (by have := HJ.out; have := HL.out; omega)⟩
            have jlt : j < C.l.length := by omega
            have HY := Lib.hid hy
            have HZj := Lib.hid (show Zc[j]? = some y by rw [HJ.out.2.1]; exact HMr.out.read hy)
            have by_ := HQ2.out q y hy
            have HPx := Lib.hid (HP.out x y (by omega))
            have HCl := Lib.hid (fun W (hW : SI C Zc X3 W) => hW.clo ok (y := y) (x := x) (by omega) (by omega))
            clear hy
            generalize decide (soC C.o C.rev C.dirs (C.l.getD y noKy) (C.l.getD x noKy) < 0) = A at HPx HCl
            go_upto_region 9 with fail
-- TILL 91
            refine Till.region (z := 1000) (S := fun w' => Below wr.heap.size wr w') (by kernel_rfl) ((Below.refl _ _).drew) (fun hHeld => ?_)
            refine Till.takeA (i := 0) (oi := { dst := some 47, op := Op.move (Operand.tmp 10), type := 3, pos := "order.go:70", after := #[], guard := none }) (v := .int .i64 (j : Int)) rfl (by kernel_rfl) (by kernel_rfl) (by kernel_rfl) (by rfl) (fun _ _ _ h => h) (Or.inl ⟨by rfl, fun w0 hS0 => ?_⟩) (by assumption) ?_
            · go_simp
            try simp only [Act.put, List.setIfInBounds_toArray, List.set_cons_zero, List.set_cons_succ]
            refine Till.takeA (i := 1) (oi := { dst := some 48, op := Op.move (Operand.tmp 1), type := 3, pos := "order.go:70", after := #[], guard := none }) (v := .int .i64 (t : Int)) rfl (by kernel_rfl) (by kernel_rfl) (by kernel_rfl) (by rfl) (fun _ _ _ h => h) (Or.inl ⟨by rfl, fun w0 hS0 => ?_⟩) (by assumption) ?_
            · go_simp
            try simp only [Act.put, List.setIfInBounds_toArray, List.set_cons_zero, List.set_cons_succ]
            refine Till.takeA (i := 2) (oi := { dst := some 49, op := Op.binOp BinOp.lss 3 (Operand.tmp 47) (Operand.tmp 48) 3, type := 4, pos := "order.go:70", after := #[{ on := 0, ground := Ground.data }, { on := 1, ground := Ground.data }], guard := none }) (v := .bool true) rfl (by kernel_rfl) (by kernel_rfl) (by kernel_rfl) (by rfl) (fun _ _ _ h => h) (Or.inl ⟨by rfl, fun w0 hS0 => ?_⟩) (by assumption) ?_
            · go_simp
            try simp only [Act.put, List.setIfInBounds_toArray, List.set_cons_zero, List.set_cons_succ]
            refine Till.takeA (i := 3) (oi := { dst := some 50, op := Op.move (Operand.tmp 49), type := 4, pos := "order.go:70", after := #[{ on := 2, ground := Ground.data }], guard := none }) (v := .bool true) rfl (by kernel_rfl) (by kernel_rfl) (by kernel_rfl) (by rfl) (fun _ _ _ h => h) (Or.inl ⟨by rfl, fun w0 hS0 => ?_⟩) (by assumption) ?_
            · go_simp
            try simp only [Act.put, List.setIfInBounds_toArray, List.set_cons_zero, List.set_cons_succ]
            refine Till.takeA (i := 4) (oi := { dst := some 51, op := Op.load 102 (Operand.tmp 5), type := 102, pos := "order.go:70", after := #[{ on := 3, ground := Ground.guard }], guard := some (3, true) }) (v := .func (.func 74) #[] #[.pointer (some ⟨C.bo, 0, none⟩), .pointer (some ⟨C.br, 0, none⟩), .pointer (some ⟨C.bd, 0, none⟩), .pointer (some ⟨C.bl, 0, none⟩)]) rfl (by kernel_rfl) (by kernel_rfl) (by kernel_rfl) (by rfl) (fun _ _ _ h => h) (Or.inl ⟨by rfl, fun w0 hS0 => ?_⟩) (by assumption) ?_
            · have q := (HSr.out.keep hS0).xc.cell; unfold cloV at q; go_simp
            try simp only [Act.put, List.setIfInBounds_toArray, List.set_cons_zero, List.set_cons_succ]
            refine Till.takeA (i := 5) (oi := { dst := some 52, op := Op.load 32 (Operand.tmp 4), type := 32, pos := "order.go:70", after := #[{ on := 3, ground := Ground.guard }], guard := some (3, true) }) (v := .slice (some ⟨C.gp, 0, none⟩) C.l.length C.l.length) rfl (by kernel_rfl) (by kernel_rfl) (by kernel_rfl) (by rfl) (fun _ _ _ h => h) (Or.inl ⟨by rfl, fun w0 hS0 => ?_⟩) (by assumption) ?_
            · have q := (HSr.out.keep hS0).xp.cell; go_simp
            try simp only [Act.put, List.setIfInBounds_toArray, List.set_cons_zero, List.set_cons_succ]
            refine Till.takeA (i := 6) (oi := { dst := some 53, op := Op.move (Operand.tmp 10), type := 3, pos := "order.go:70", after := #[{ on := 3, ground := Ground.guard }], guard := some (3, true) }) (v := .int .i64 (j : Int)) rfl (by kernel_rfl) (by kernel_rfl) (by kernel_rfl) (by rfl) (fun _ _ _ h => h) (Or.inl ⟨by rfl, fun w0 hS0 => ?_⟩) (by assumption) ?_
            · go_simp
            try simp only [Act.put, List.setIfInBounds_toArray, List.set_cons_zero, List.set_cons_succ]
            refine Till.takeA (i := 7) (oi := { dst := some 54, op := Op.indexAddr 32 (Operand.tmp 52) (Operand.tmp 53), type := 0, pos := "order.go:70", after := #[{ on := 5, ground := Ground.data }, { on := 6, ground := Ground.data }, { on := 3, ground := Ground.guard }], guard := some (3, true) }) (v := .pointer (some ⟨C.gp, j, none⟩)) rfl (by kernel_rfl) (by kernel_rfl) (by kernel_rfl) (by rfl) (fun _ _ _ h => h) (Or.inl ⟨by rfl, fun w0 hS0 => ?_⟩) (by assumption) ?_
            · go_simp
            try simp only [Act.put, List.setIfInBounds_toArray, List.set_cons_zero, List.set_cons_succ]
            refine Till.takeA (i := 8) (oi := { dst := some 55, op := Op.load 3 (Operand.tmp 54), type := 3, pos := "order.go:70", after := #[{ on := 7, ground := Ground.data }, { on := 3, ground := Ground.guard }], guard := some (3, true) }) (v := .int .i64 (y : Int)) rfl (by kernel_rfl) (by kernel_rfl) (by kernel_rfl) (by rfl) (fun _ _ _ h => h) (Or.inl ⟨by rfl, fun w0 hS0 => ?_⟩) (by assumption) ?_
            · have q := (HSr.out.keep hS0).place HZj.out; go_simp
            try simp only [Act.put, List.setIfInBounds_toArray, List.set_cons_zero, List.set_cons_succ]
            refine Till.takeA (i := 9) (oi := { dst := some 56, op := Op.load 32 (Operand.tmp 3), type := 32, pos := "order.go:70", after := #[{ on := 3, ground := Ground.guard }], guard := some (3, true) }) (v := .slice (some ⟨C.gs, 0, none⟩) C.l.length C.l.length) rfl (by kernel_rfl) (by kernel_rfl) (by kernel_rfl) (by rfl) (fun _ _ _ h => h) (Or.inl ⟨by rfl, fun w0 hS0 => ?_⟩) (by assumption) ?_
            · have q := (HSr.out.keep hS0).xs.cell; go_simp
            try simp only [Act.put, List.setIfInBounds_toArray, List.set_cons_zero, List.set_cons_succ]
            refine Till.takeA (i := 10) (oi := { dst := some 57, op := Op.move (Operand.tmp 9), type := 3, pos := "order.go:70", after := #[{ on := 3, ground := Ground.guard }], guard := some (3, true) }) (v := .int .i64 (i : Int)) rfl (by kernel_rfl) (by kernel_rfl) (by kernel_rfl) (by rfl) (fun _ _ _ h => h) (Or.inl ⟨by rfl, fun w0 hS0 => ?_⟩) (by assumption) ?_
            · go_simp
            try simp only [Act.put, List.setIfInBounds_toArray, List.set_cons_zero, List.set_cons_succ]
            refine Till.takeA (i := 11) (oi := { dst := some 58, op := Op.indexAddr 32 (Operand.tmp 56) (Operand.tmp 57), type := 0, pos := "order.go:70", after := #[{ on := 9, ground := Ground.data }, { on := 10, ground := Ground.data }, { on := 3, ground := Ground.guard }], guard := some (3, true) }) (v := .pointer (some ⟨C.gs, i, none⟩)) rfl (by kernel_rfl) (by kernel_rfl) (by kernel_rfl) (by rfl) (fun _ _ _ h => h) (Or.inl ⟨by rfl, fun w0 hS0 => ?_⟩) (by assumption) ?_
            · go_simp
            try simp only [Act.put, List.setIfInBounds_toArray, List.set_cons_zero, List.set_cons_succ]
            refine Till.takeA (i := 12) (oi := { dst := some 59, op := Op.load 3 (Operand.tmp 58), type := 3, pos := "order.go:70", after := #[{ on := 11, ground := Ground.data }, { on := 3, ground := Ground.guard }], guard := some (3, true) }) (v := .int .i64 (x : Int)) rfl (by kernel_rfl) (by kernel_rfl) (by kernel_rfl) (by rfl) (fun _ _ _ h => h) (Or.inl ⟨by rfl, fun w0 hS0 => ?_⟩) (by assumption) ?_
            · have q := (HSr.out.keep hS0).spare HXi.out; go_simp
            try simp only [Act.put, List.setIfInBounds_toArray, List.set_cons_zero, List.set_cons_succ]
            refine Till.next (i := 13) (o := { dst := some 60, op := Op.call { callee := Callee.value (Operand.tmp 51), args := #[Operand.tmp 55, Operand.tmp 59], argTypes := #[3, 3] }, type := 4, pos := "order.go:70", after := #[{ on := 4, ground := Ground.data }, { on := 8, ground := Ground.data }, { on := 12, ground := Ground.data }, { on := 3, ground := Ground.chain }, { on := 3, ground := Ground.guard }], guard := some (3, true) }) (by kernel_rfl) rfl (fun K hK => ?_)
            go_simp
            refine (HCl.out _ (HSr.out.keep hHeld)).mono ?_
            rintro e w3 ⟨rfl, hb3⟩
            have hHeld3 : Below wr.heap.size wr w3 := below_two hHeld hb3
            clear hb3
            go_wp2_with fail
            refine hK.out _ _ (fun _ => hHeld3) ?_
            clear hK K
            try simp only [Act.put, List.setIfInBounds_toArray, List.set_cons_zero, List.set_cons_succ]
            refine Till.takeA (i := 14) (oi := { dst := some 61, op := Op.pick (Operand.tmp 50) (Operand.tmp 60) (Operand.const (Value.bool false)), type := 4, pos := "order.go:70", after := #[{ on := 3, ground := Ground.data }, { on := 13, ground := Ground.data }], guard := none }) (v := .bool A) rfl (by kernel_rfl) (by kernel_rfl) (by kernel_rfl) (by rfl) (fun _ _ _ h => h) (Or.inl ⟨by rfl, fun w0 hS0 => ?_⟩) (by assumption) ?_
            · go_simp
            try simp only [Act.put, List.setIfInBounds_toArray, List.set_cons_zero, List.set_cons_succ]
            refine Till.done (by kernel_rfl) ?_
-- TILL 91 END
            have HSq := Lib.hid (HSr.out.keep hHeld3)
            generalize w3 = wq at HSq ⊢
            clear hHeld hHeld3
            cases A with
            | true =>
              have HSd := Lib.hid (HSq.out.keep ((Below.refl _ _).drew))
              have HSn := Lib.hid (HSd.out.setP ok a y)
              have c1 : wq.drew.cell? ⟨C.gp, a, none⟩ = some (.int .i64 (z0 : Int)) := (HSq.out.keep ((Below.refl _ _).drew)).place HZ0.out
              have c2 : wq.drew.frozen? ⟨C.gp, a, none⟩ = false := frozen_of_row _ _ _ _ _ (HSq.out.keep ((Below.refl _ _).drew)).pl
              go_upto_region 10 with fail
-- TILL 10
              refine Till.region (z := 1000) (S := fun w' => w'.cell? ⟨C.bp, 0, none⟩ = some (.slice (some ⟨C.gp, 0, none⟩) C.l.length C.l.length) ∧ w'.cell? ⟨C.gp, j, none⟩ = some (.int .i64 (y : Int))) (by kernel_rfl) ⟨HSd.out.xp.cell, HSd.out.place HZj.out⟩ (fun hHeld => ?_)
              refine Till.takeA (i := 0) (oi := { dst := some 62, op := Op.load 32 (Operand.tmp 4), type := 32, pos := "order.go:71", after := #[], guard := none }) (v := .slice (some ⟨C.gp, 0, none⟩) C.l.length C.l.length) rfl (by kernel_rfl) (by kernel_rfl) (by kernel_rfl) (by rfl) (fun _ _ _ h => h) (Or.inl ⟨by rfl, fun w0 hS0 => ?_⟩) (by assumption) ?_
              · have q := hS0.1; go_simp
              try simp only [Act.put, List.setIfInBounds_toArray, List.set_cons_zero, List.set_cons_succ]
              refine Till.takeA (i := 1) (oi := { dst := some 63, op := Op.move (Operand.tmp 11), type := 3, pos := "order.go:71", after := #[], guard := none }) (v := .int .i64 (a : Int)) rfl (by kernel_rfl) (by kernel_rfl) (by kernel_rfl) (by rfl) (fun _ _ _ h => h) (Or.inl ⟨by rfl, fun w0 hS0 => ?_⟩) (by assumption) ?_
              · go_simp
              try simp only [Act.put, List.setIfInBounds_toArray, List.set_cons_zero, List.set_cons_succ]
              refine Till.takeA (i := 2) (oi := { dst := some 64, op := Op.load 32 (Operand.tmp 4), type := 32, pos := "order.go:71", after := #[], guard := none }) (v := .slice (some ⟨C.gp, 0, none⟩) C.l.length C.l.length) rfl (by kernel_rfl) (by kernel_rfl) (by kernel_rfl) (by rfl) (fun _ _ _ h => h) (Or.inl ⟨by rfl, fun w0 hS0 => ?_⟩) (by assumption) ?_
              · have q := hS0.1; go_simp
              try simp only [Act.put, List.setIfInBounds_toArray, List.set_cons_zero, List.set_cons_succ]
              refine Till.takeA (i := 3) (oi := { dst := some 65, op := Op.move (Operand.tmp 10), type := 3, pos := "order.go:71", after := #[], guard := none }) (v := .int .i64 (j : Int)) rfl (by kernel_rfl) (by kernel_rfl) (by kernel_rfl) (by rfl) (fun _ _ _ h => h) (Or.inl ⟨by rfl, fun w0 hS0 => ?_⟩) (by assumption) ?_
              · go_simp
              try simp only [Act.put, List.setIfInBounds_toArray, List.set_cons_zero, List.set_cons_succ]
              refine Till.takeA (i := 4) (oi := { dst := some 66, op := Op.indexAddr 32 (Operand.tmp 64) (Operand.tmp 65), type := 0, pos := "order.go:71", after := #[{ on := 2, ground := Ground.data }, { on := 3, ground := Ground.data }], guard := none }) (v := .pointer (some ⟨C.gp, j, none⟩)) rfl (by kernel_rfl) (by kernel_rfl) (by kernel_rfl) (by rfl) (fun _ _ _ h => h) (Or.inl ⟨by rfl, fun w0 hS0 => ?_⟩) (by assumption) ?_
              · go_simp
              try simp only [Act.put, List.setIfInBounds_toArray, List.set_cons_zero, List.set_cons_succ]
              refine Till.takeA (i := 5) (oi := { dst := some 67, op := Op.load 3 (Operand.tmp 66), type := 3, pos := "order.go:71", after := #[{ on := 4, ground := Ground.data }], guard := none }) (v := .int .i64 (y : Int)) rfl (by kernel_rfl) (by kernel_rfl) (by kernel_rfl) (by rfl) (fun _ _ _ h => h) (Or.inl ⟨by rfl, fun w0 hS0 => ?_⟩) (by assumption) ?_
              · have q := hS0.2; go_simp
              try simp only [Act.put, List.setIfInBounds_toArray, List.set_cons_zero, List.set_cons_succ]
              refine Till.takeA (i := 6) (oi := { dst := some 68, op := Op.indexAddr 32 (Operand.tmp 62) (Operand.tmp 63), type := 0, pos := "order.go:71", after := #[{ on := 0, ground := Ground.data }, { on := 1, ground := Ground.data }, { on := 0, ground := Ground.phase }, { on := 1, ground := Ground.phase }, { on := 2, ground := Ground.phase }, { on := 3, ground := Ground.phase }, { on := 4, ground := Ground.phase }, { on := 5, ground := Ground.phase }], guard := none }) (v := .pointer (some ⟨C.gp, a, none⟩)) rfl (by kernel_rfl) (by kernel_rfl) (by kernel_rfl) (by rfl) (fun _ _ _ h => h) (Or.inl ⟨by rfl, fun w0 hS0 => ?_⟩) (by assumption) ?_
              · go_simp
              try simp only [Act.put, List.setIfInBounds_toArray, List.set_cons_zero, List.set_cons_succ]
              refine Till.next (i := 7) (o := { dst := none, op := Op.store 3 (Operand.tmp 68) (Operand.tmp 67), type := 0, pos := "order.go:71", after := #[{ on := 6, ground := Ground.data }, { on := 5, ground := Ground.data }, { on := 0, ground := Ground.phase }, { on := 1, ground := Ground.phase }, { on := 2, ground := Ground.phase }, { on := 3, ground := Ground.phase }, { on := 4, ground := Ground.phase }, { on := 5, ground := Ground.phase }], guard := none }) (by kernel_rfl) rfl (fun K hK => ?_)
              go_simp
              refine hK.out _ _ (fun _ => ⟨HSn.out.xp.cell, HSn.out.place ((List.getElem?_set_ne (by have := HJ.out; have := HL.out; omega)).trans HZj.out)⟩) ?_
              clear hK K
              try simp only [Act.put, List.setIfInBounds_toArray, List.set_cons_zero, List.set_cons_succ]
              refine Till.done (by kernel_rfl) ?_
-- TILL 10 END
              go_wp2_with fail
              refine ⟨?_, ?measure⟩
              (repeat apply Exists.intro)
              refine ⟨?rel, rfl⟩
              case rel => exact ⟨p, q + 1, Zc.set a y, i, j + 1, a + 1, Lib.hid (by have := HJ.out; omega), by simp, by simp, by simp, Lib.hid (by rw [HJ.out.2.2]; exact HMr.out.right (by omega) (by omega) HX.out HY.out HPx.out), HSn⟩
              case measure => simp [intOf]; omega
            | false =>
              have HSd := Lib.hid (HSq.out.keep ((Below.refl _ _).drew))
              have HSn := Lib.hid (HSd.out.setP ok a x)
              have c1 : wq.drew.cell? ⟨C.gp, a, none⟩ = some (.int .i64 (z0 : Int)) := (HSq.out.keep ((Below.refl _ _).drew)).place HZ0.out
              have c2 : wq.drew.frozen? ⟨C.gp, a, none⟩ = false := frozen_of_row _ _ _ _ _ (HSq.out.keep ((Below.refl _ _).drew)).pl
              go_upto_region 12 with fail
-- TILL 121
              refine Till.region (z := 1000) (S := fun w' => w'.cell? ⟨C.bp, 0, none⟩ = some (.slice (some ⟨C.gp, 0, none⟩) C.l.length C.l.length) ∧ w'.cell? ⟨C.bs, 0, none⟩ = some (.slice (some ⟨C.gs, 0, none⟩) C.l.length C.l.length) ∧ w'.cell? ⟨C.gs, i, none⟩ = some (.int .i64 (x : Int))) (by kernel_rfl) ⟨HSd.out.xp.cell, HSd.out.xs.cell, HSd.out.spare HXi.out⟩ (fun hHeld => ?_)
              refine Till.takeA (i := 0) (oi := { dst := some 71, op := Op.load 32 (Operand.tmp 4), type := 32, pos := "order.go:74", after := #[], guard := none }) (v := .slice (some ⟨C.gp, 0, none⟩) C.l.length C.l.length) rfl (by kernel_rfl) (by kernel_rfl) (by kernel_rfl) (by rfl) (fun _ _ _ h => h) (Or.inl ⟨by rfl, fun w0 hS0 => ?_⟩) (by assumption) ?_
              · have q := hS0.1; go_simp
              try simp only [Act.put, List.setIfInBounds_toArray, List.set_cons_zero, List.set_cons_succ]
              refine Till.takeA (i := 1) (oi := { dst := some 72, op := Op.move (Operand.tmp 11), type := 3, pos := "order.go:74", after := #[], guard := none }) (v := .int .i64 (a : Int)) rfl (by kernel_rfl) (by kernel_rfl) (by kernel_rfl) (by rfl) (fun _ _ _ h => h) (Or.inl ⟨by rfl, fun w0 hS0 => ?_⟩) (by assumption) ?_
              · go_simp
              try simp only [Act.put, List.setIfInBounds_toArray, List.set_cons_zero, List.set_cons_succ]
              refine Till.takeA (i := 2) (oi := { dst := some 73, op := Op.load 32 (Operand.tmp 3), type := 32, pos := "order.go:74", after := #[], guard := none }) (v := .slice (some ⟨C.gs, 0, none⟩) C.l.length C.l.length) rfl (by kernel_rfl) (by kernel_rfl) (by kernel_rfl) (by rfl) (fun _ _ _ h => h) (Or.inl ⟨by rfl, fun w0 hS0 => ?_⟩) (by assumption) ?_
              · have q := hS0.2.1; go_simp
              try simp only [Act.put, List.setIfInBounds_toArray, List.set_cons_zero, List.set_cons_succ]
              refine Till.takeA (i := 3) (oi := { dst := some 74, op := Op.move (Operand.tmp 9), type := 3, pos := "order.go:74", after := #[], guard := none }) (v := .int .i64 (i : Int)) rfl (by kernel_rfl) (by kernel_rfl) (by kernel_rfl) (by rfl) (fun _ _ _ h => h) (Or.inl ⟨by rfl, fun w0 hS0 => ?_⟩) (by assumption) ?_
              · go_simp
              try simp only [Act.put, List.setIfInBounds_toArray, List.set_cons_zero, List.set_cons_succ]
              refine Till.takeA (i := 4) (oi := { dst := some 75, op := Op.indexAddr 32 (Operand.tmp 73) (Operand.tmp 74), type := 0, pos := "order.go:74", after := #[{ on := 2, ground := Ground.data }, { on := 3, ground := Ground.data }], guard := none }) (v := .pointer (some ⟨C.gs, i, none⟩)) rfl (by kernel_rfl) (by kernel_rfl) (by kernel_rfl) (by rfl) (fun _ _ _ h => h) (Or.inl ⟨by rfl, fun w0 hS0 => ?_⟩) (by assumption) ?_
              · go_simp
              try simp only [Act.put, List.setIfInBounds_toArray, List.set_cons_zero, List.set_cons_succ]
              refine Till.takeA (i := 5) (oi := { dst := some 76, op := Op.load 3 (Operand.tmp 75), type := 3, pos := "order.go:74", after := #[{ on := 4, ground := Ground.data }], guard := none }) (v := .int .i64 (x : Int)) rfl (by kernel_rfl) (by kernel_rfl) (by kernel_rfl) (by rfl) (fun _ _ _ h => h) (Or.inl ⟨by rfl, fun w0 hS0 => ?_⟩) (by assumption) ?_
              · have q := hS0.2.2; go_simp
              try simp only [Act.put, List.setIfInBounds_toArray, List.set_cons_zero, List.set_cons_succ]
              refine Till.takeA (i := 6) (oi := { dst := some 77, op := Op.indexAddr 32 (Operand.tmp 71) (Operand.tmp 72), type := 0, pos := "order.go:74", after := #[{ on := 0, ground := Ground.data }, { on := 1, ground := Ground.data }, { on := 0, ground := Ground.phase }, { on := 1, ground := Ground.phase }, { on := 2, ground := Ground.phase }, { on := 3, ground := Ground.phase }, { on := 4, ground := Ground.phase }, { on := 5, ground := Ground.phase }], guard := none }) (v := .pointer (some ⟨C.gp, a, none⟩)) rfl (by kernel_rfl) (by kernel_rfl) (by kernel_rfl) (by rfl) (fun _ _ _ h => h) (Or.inl ⟨by rfl, fun w0 hS0 => ?_⟩) (by assumption) ?_
              · go_simp
              try simp only [Act.put, List.setIfInBounds_toArray, List.set_cons_zero, List.set_cons_succ]
              refine Till.next (i := 7) (o := { dst := none, op := Op.store 3 (Operand.tmp 77) (Operand.tmp 76), type := 0, pos := "order.go:74", after := #[{ on := 6, ground := Ground.data }, { on := 5, ground := Ground.data }, { on := 0, ground := Ground.phase }, { on := 1, ground := Ground.phase }, { on := 2, ground := Ground.phase }, { on := 3, ground := Ground.phase }, { on := 4, ground := Ground.phase }, { on := 5, ground := Ground.phase }], guard := none }) (by kernel_rfl) rfl (fun K hK => ?_)
              go_simp
              refine hK.out _ _ (fun _ => ⟨HSn.out.xp.cell, HSn.out.xs.cell, HSn.out.spare HXi.out⟩) ?_
              clear hK K
              try simp only [Act.put, List.setIfInBounds_toArray, List.set_cons_zero, List.set_cons_succ]
              refine Till.done (by kernel_rfl) ?_
-- TILL 121 END
              go_wp2_with fail
              refine ⟨?_, ?measure⟩
              (repeat apply Exists.intro)
              refine ⟨?rel, rfl⟩
              case rel => exact ⟨p + 1, q, Zc.set a x, i + 1, j, a + 1, Lib.hid (by have := HJ.out; omega), by simp, by simp, by simp, Lib.hid (by rw [HJ.out.2.2]; exact HMr.out.left (by omega) (by omega) HX.out (.inr ⟨y, HY.out, HPx.out⟩)), HSn⟩
              case measure => simp [intOf]; omega
          · have d2 : decide ((j : Int) < (t : Int)) = false := decide_eq_false (by omega)
            go_upto_region 9 with fail
-- TILL 90
            refine Till.region (z := 1000) (S := fun w' => Below wr.heap.size wr w') (by kernel_rfl) ((Below.refl _ _).drew) (fun hHeld => ?_)
            refine Till.takeA (i := 0) (oi := { dst := some 47, op := Op.move (Operand.tmp 10), type := 3, pos := "order.go:70", after := #[], guard := none }) (v := .int .i64 (j : Int)) rfl (by kernel_rfl) (by kernel_rfl) (by kernel_rfl) (by rfl) (fun _ _ _ h => h) (Or.inl ⟨by rfl, fun w0 hS0 => ?_⟩) (by assumption) ?_
            · go_simp
            try simp only [Act.put, List.setIfInBounds_toArray, List.set_cons_zero, List.set_cons_succ]
            refine Till.takeA (i := 1) (oi := { dst := some 48, op := Op.move (Operand.tmp 1), type := 3, pos := "order.go:70", after := #[], guard := none }) (v := .int .i64 (t : Int)) rfl (by kernel_rfl) (by kernel_rfl) (by kernel_rfl) (by rfl) (fun _ _ _ h => h) (Or.inl ⟨by rfl, fun w0 hS0 => ?_⟩) (by assumption) ?_
            · go_simp
            try simp only [Act.put, List.setIfInBounds_toArray, List.set_cons_zero, List.set_cons_succ]
            refine Till.takeA (i := 2) (oi := { dst := some 49, op := Op.binOp BinOp.lss 3 (Operand.tmp 47) (Operand.tmp 48) 3, type := 4, pos := "order.go:70", after := #[{ on := 0, ground := Ground.data }, { on := 1, ground := Ground.data }], guard := none }) (v := .bool false) rfl (by kernel_rfl) (by kernel_rfl) (by kernel_rfl) (by rfl) (fun _ _ _ h => h) (Or.inl ⟨by rfl, fun w0 hS0 => ?_⟩) (by assumption) ?_
            · go_simp
            try simp only [Act.put, List.setIfInBounds_toArray, List.set_cons_zero, List.set_cons_succ]
            refine Till.takeA (i := 3) (oi := { dst := some 50, op := Op.move (Operand.tmp 49), type := 4, pos := "order.go:70", after := #[{ on := 2, ground := Ground.data }], guard := none }) (v := .bool false) rfl (by kernel_rfl) (by kernel_rfl) (by kernel_rfl) (by rfl) (fun _ _ _ h => h) (Or.inl ⟨by rfl, fun w0 hS0 => ?_⟩) (by assumption) ?_
            · go_simp
            try simp only [Act.put, List.setIfInBounds_toArray, List.set_cons_zero, List.set_cons_succ]
            refine Till.takeA (i := 4) (oi := { dst := some 51, op := Op.load 102 (Operand.tmp 5), type := 102, pos := "order.go:70", after := #[{ on := 3, ground := Ground.guard }], guard := some (3, true) }) (v := undef) rfl (by kernel_rfl) (by kernel_rfl) (by kernel_rfl) (by rfl) (fun _ _ _ h => h) (Or.inr ⟨by rfl, rfl⟩) (by assumption) ?_
            try simp only [Act.put, List.setIfInBounds_toArray, List.set_cons_zero, List.set_cons_succ]
            refine Till.takeA (i := 5) (oi := { dst := some 52, op := Op.load 32 (Operand.tmp 4), type := 32, pos := "order.go:70", after := #[{ on := 3, ground := Ground.guard }], guard := some (3, true) }) (v := undef) rfl (by kernel_rfl) (by kernel_rfl) (by kernel_rfl) (by rfl) (fun _ _ _ h => h) (Or.inr ⟨by rfl, rfl⟩) (by assumption) ?_
            try simp only [Act.put, List.setIfInBounds_toArray, List.set_cons_zero, List.set_cons_succ]
            refine Till.takeA (i := 6) (oi := { dst := some 53, op := Op.move (Operand.tmp 10), type := 3, pos := "order.go:70", after := #[{ on := 3, ground := Ground.guard }], guard := some (3, true) }) (v := undef) rfl (by kernel_rfl) (by kernel_rfl) (by kernel_rfl) (by rfl) (fun _ _ _ h => h) (Or.inr ⟨by rfl, rfl⟩) (by assumption) ?_
            try simp only [Act.put, List.setIfInBounds_toArray, List.set_cons_zero, List.set_cons_succ]
            refine Till.takeA (i := 7) (oi := { dst := some 54, op := Op.indexAddr 32 (Operand.tmp 52) (Operand.tmp 53), type := 0, pos := "order.go:70", after := #[{ on := 5, ground := Ground.data }, { on := 6, ground := Ground.data }, { on := 3, ground := Ground.guard }], guard := some (3, true) }) (v := undef) rfl (by kernel_rfl) (by kernel_rfl) (by kernel_rfl) (by rfl) (fun _ _ _ h => h) (Or.inr ⟨by rfl, rfl⟩) (by assumption) ?_
            try simp only [Act.put, List.setIfInBounds_toArray, List.set_cons_zero, List.set_cons_succ]
            refine Till.takeA (i := 8) (oi := { dst := some 55, op := Op.load 3 (Operand.tmp 54), type := 3, pos := "order.go:70", after := #[{ on := 7, ground := Ground.data }, { on := 3, ground := Ground.guard }], guard := some (3, true) }) (v := undef) rfl (by kernel_rfl) (by kernel_rfl) (by kernel_rfl) (by rfl) (fun _ _ _ h => h) (Or.inr ⟨by rfl, rfl⟩) (by assumption) ?_
            try simp only [Act.put, List.setIfInBounds_toArray, List.set_cons_zero, List.set_cons_succ]
            refine Till.takeA (i := 9) (oi := { dst := some 56, op := Op.load 32 (Operand.tmp 3), type := 32, pos := "order.go:70", after := #[{ on := 3, ground := Ground.guard }], guard := some (3, true) }) (v := undef) rfl (by kernel_rfl) (by kernel_rfl) (by kernel_rfl) (by rfl) (fun _ _ _ h => h) (Or.inr ⟨by rfl, rfl⟩) (by assumption) ?_
            try simp only [Act.put, List.setIfInBounds_toArray, List.set_cons_zero, List.set_cons_succ]
            refine Till.takeA (i := 10) (oi := { dst := some 57, op := Op.move (Operand.tmp 9), type := 3, pos := "order.go:70", after := #[{ on := 3, ground := Ground.guard }], guard := some (3, true) }) (v := undef) rfl (by kernel_rfl) (by kernel_rfl) (by kernel_rfl) (by rfl) (fun _ _ _ h => h) (Or.inr ⟨by rfl, rfl⟩) (by assumption) ?_
            try simp only [Act.put, List.setIfInBounds_toArray, List.set_cons_zero, List.set_cons_succ]
            refine Till.takeA (i := 11) (oi := { dst := some 58, op := Op.indexAddr 32 (Operand.tmp 56) (Operand.tmp 57), type := 0, pos := "order.go:70", after := #[{ on := 9, ground := Ground.data }, { on := 10, ground := Ground.data }, { on := 3, ground := Ground.guard }], guard := some (3, true) }) (v := undef) rfl (by kernel_rfl) (by kernel_rfl) (by kernel_rfl) (by rfl) (fun _ _ _ h => h) (Or.inr ⟨by rfl, rfl⟩) (by assumption) ?_
            try simp only [Act.put, List.setIfInBounds_toArray, List.set_cons_zero, List.set_cons_succ]
            refine Till.takeA (i := 12) (oi := { dst := some 59, op := Op.load 3 (Operand.tmp 58), type := 3, pos := "order.go:70", after := #[{ on := 11, ground := Ground.data }, { on := 3, ground := Ground.guard }], guard := some (3, true) }) (v := undef) rfl (by kernel_rfl) (by kernel_rfl) (by kernel_rfl) (by rfl) (fun _ _ _ h => h) (Or.inr ⟨by rfl, rfl⟩) (by assumption) ?_
            try simp only [Act.put, List.setIfInBounds_toArray, List.set_cons_zero, List.set_cons_succ]
            refine Till.takeA (i := 13) (oi := { dst := some 60, op := Op.call { callee := Callee.value (Operand.tmp 51), args := #[Operand.tmp 55, Operand.tmp 59], argTypes := #[3, 3] }, type := 4, pos := "order.go:70", after := #[{ on := 4, ground := Ground.data }, { on := 8, ground := Ground.data }, { on := 12, ground := Ground.data }, { on := 3, ground := Ground.chain }, { on := 3, ground := Ground.guard }], guard := some (3, true) }) (v := undef) rfl (by kernel_rfl) (by kernel_rfl) (by kernel_rfl) (by rfl) (fun _ _ _ h => h) (Or.inr ⟨by rfl, rfl⟩) (by assumption) ?_
            try simp only [Act.put, List.setIfInBounds_toArray, List.set_cons_zero, List.set_cons_succ]
            refine Till.takeA (i := 14) (oi := { dst := some 61, op := Op.pick (Operand.tmp 50) (Operand.tmp 60) (Operand.const (Value.bool false)), type := 4, pos := "order.go:70", after := #[{ on := 3, ground := Ground.data }, { on := 13, ground := Ground.data }], guard := none }) (v := .bool false) rfl (by kernel_rfl) (by kernel_rfl) (by kernel_rfl) (by rfl) (fun _ _ _ h => h) (Or.inl ⟨by rfl, fun w0 hS0 => ?_⟩) (by assumption) ?_
            · go_simp
            try simp only [Act.put, List.setIfInBounds_toArray, List.set_cons_zero, List.set_cons_succ]
            refine Till.done (by kernel_rfl) ?_
-- TILL 90 END
            have HSq := Lib.hid (HSr.out.keep hHeld)
            generalize wr.drew = wq at HSq ⊢
            clear hHeld
            have HSd := Lib.hid (HSq.out.keep ((Below.refl _ _).drew))
            have HSn := Lib.hid (HSd.out.setP ok a x)
            have c1 : wq.drew.cell? ⟨C.gp, a, none⟩ = some (.int .i64 (z0 : Int)) := (HSq.out.keep ((Below.refl _ _).drew)).place HZ0.out
            have c2 : wq.drew.frozen? ⟨C.gp, a, none⟩ = false := frozen_of_row _ _ _ _ _ (HSq.out.keep ((Below.refl _ _).drew)).pl
            go_upto_region 12 with fail
-- TILL 120
            refine Till.region (z := 1000) (S := fun w' => w'.cell? ⟨C.bp, 0, none⟩ = some (.slice (some ⟨C.gp, 0, none⟩) C.l.length C.l.length) ∧ w'.cell? ⟨C.bs, 0, none⟩ = some (.slice (some ⟨C.gs, 0, none⟩) C.l.length C.l.length) ∧ w'.cell? ⟨C.gs, i, none⟩ = some (.int .i64 (x : Int))) (by kernel_rfl) ⟨HSd.out.xp.cell, HSd.out.xs.cell, HSd.out.spare HXi.out⟩ (fun hHeld => ?_)
            refine Till.takeA (i := 0) (oi := { dst := some 71, op := Op.load 32 (Operand.tmp 4), type := 32, pos := "order.go:74", after := #[], guard := none }) (v := .slice (some ⟨C.gp, 0, none⟩) C.l.length C.l.length) rfl (by kernel_rfl) (by kernel_rfl) (by kernel_rfl) (by rfl) (fun _ _ _ h => h) (Or.inl ⟨by rfl, fun w0 hS0 => ?_⟩) (by assumption) ?_
            · have q := hS0.1; go_simp
            try simp only [Act.put, List.setIfInBounds_toArray, List.set_cons_zero, List.set_cons_succ]
            refine Till.takeA (i := 1) (oi := { dst := some 72, op := Op.move (Operand.tmp 11), type := 3, pos := "order.go:74", after := #[], guard := none }) (v := .int .i64 (a : Int)) rfl (by kernel_rfl) (by kernel_rfl) (by kernel_rfl) (by rfl) (fun _ _ _ h => h) (Or.inl ⟨by rfl, fun w0 hS0 => ?_⟩) (by assumption) ?_
            · go_simp
            try simp only [Act.put, List.setIfInBounds_toArray, List.set_cons_zero, List.set_cons_succ]
            refine Till.takeA (i := 2) (oi := { dst := some 73, op := Op.load 32 (Operand.tmp 3), type := 32, pos := "order.go:74", after := #[], guard := none }) (v := .slice (some ⟨C.gs, 0, none⟩) C.l.length C.l.length) rfl (by kernel_rfl) (by kernel_rfl) (by kernel_rfl) (by rfl) (fun _ _ _ h => h) (Or.inl ⟨by rfl, fun w0 hS0 => ?_⟩) (by assumption) ?_
            · have q := hS0.2.1; go_simp
            try simp only [Act.put, List.setIfInBounds_toArray, List.set_cons_zero, List.set_cons_succ]
            refine Till.takeA (i := 3) (oi := { dst := some 74, op := Op.move (Operand.tmp 9), type := 3, pos := "order.go:74", after := #[], guard := none }) (v := .int .i64 (i : Int)) rfl (by kernel_rfl) (by kernel_rfl) (by kernel_rfl) (by rfl) (fun _ _ _ h => h) (Or.inl ⟨by rfl, fun w0 hS0 => ?_⟩) (by assumption) ?_
            · go_simp
            try simp only [Act.put, List.setIfInBounds_toArray, List.set_cons_zero, List.set_cons_succ]
            refine Till.takeA (i := 4) (oi := { dst := some 75, op := Op.indexAddr 32 (Operand.tmp 73) (Operand.tmp 74), type := 0, pos := "order.go:74", after := #[{ on := 2, ground := Ground.data }, { on := 3, ground := Ground.data }], guard := none }) (v := .pointer (some ⟨C.gs, i, none⟩)) rfl (by kernel_rfl) (by kernel_rfl) (by kernel_rfl) (by rfl) (fun _ _ _ h => h) (Or.inl ⟨by rfl, fun w0 hS0 => ?_⟩) (by assumption) ?_
            · go_simp
            try simp only [Act.put, List.setIfInBounds_toArray, List.set_cons_zero, List.set_cons_succ]
            refine Till.takeA (i := 5) (oi := { dst := some 76, op := Op.load 3 (Operand.tmp 75), type := 3, pos := "order.go:74", after := #[{ on := 4, ground := Ground.data }], guard := none }) (v := .int .i64 (x : Int)) rfl (by kernel_rfl) (by kernel_rfl) (by kernel_rfl) (by rfl) (fun _ _ _ h => h) (Or.inl ⟨by rfl, fun w0 hS0 => ?_⟩) (by assumption) ?_
            · have q := hS0.2.2; go_simp
            try simp only [Act.put, List.setIfInBounds_toArray, List.set_cons_zero, List.set_cons_succ]
            refine Till.takeA (i := 6) (oi := { dst := some 77, op := Op.indexAddr 32 (Operand.tmp 71) (Operand.tmp 72), type := 0, pos := "order.go:74", after := #[{ on := 0, ground := Ground.data }, { on := 1, ground := Ground.data }, { on := 0, ground := Ground.phase }, { on := 1, ground := Ground.phase }, { on := 2, ground := Ground.phase }, { on := 3, ground := Ground.phase }, { on := 4, ground := Ground.phase }, { on := 5, ground := Ground.phase }], guard := none }) (v := .pointer (some ⟨C.gp, a, none⟩)) rfl (by kernel_rfl) (by kernel_rfl) (by kernel_rfl) (by rfl) (fun _ _ _ h => h) (Or.inl ⟨by rfl, fun w0 hS0 => ?_⟩) (by assumption) ?_
            · go_simp
            try simp only [Act.put, List.setIfInBounds_toArray, List.set_cons_zero, List.set_cons_succ]
            refine Till.next (i := 7) (o := { dst := none, op := Op.store 3 (Operand.tmp 77) (Operand.tmp 76), type := 0, pos := "order.go:74", after := #[{ on := 6, ground := Ground.data }, { on := 5, ground := Ground.data }, { on := 0, ground := Ground.phase }, { on := 1, ground := Ground.phase }, { on := 2, ground := Ground.phase }, { on := 3, ground := Ground.phase }, { on := 4, ground := Ground.phase }, { on := 5, ground := Ground.phase }], guard := none }) (by kernel_rfl) rfl (fun K hK => ?_)
            go_simp
            refine hK.out _ _ (fun _ => ⟨HSn.out.xp.cell, HSn.out.xs.cell, HSn.out.spare HXi.out⟩) ?_
            clear hK K
            try simp only [Act.put, List.setIfInBounds_toArray, List.set_cons_zero, List.set_cons_succ]
            refine Till.done (by kernel_rfl) ?_
-- TILL 120 END
            go_wp2_with fail
            refine ⟨?_, ?measure⟩
            (repeat apply Exists.intro)
            refine ⟨?rel, rfl⟩
            case rel => exact ⟨p + 1, q, Zc.set a x, i + 1, j, a + 1, Lib.hid (by have := HJ.out; omega), by simp, by simp, by simp, Lib.hid (by rw [HJ.out.2.2]; exact HMr.out.left (by omega) (by omega) HX.out (.inl (by have := HJ.out; omega))), HSn⟩
            case measure => simp [intOf]; omega
        · have d1 : decide ((i : Int) < (h : Int)) = false := decide_eq_false (by omega)
          have HE := Lib.hid (HMr.out.done (by omega) (by have := HJ.out; have := HL.out; omega))
          rw [HE.out] at HSr
          go_wp2_with fail
          go_end0
          exact ⟨_, _, X3, rfl, HF.out, HSr.out⟩
end Go.Proofs.YtcjbnjoomgagjaaGreatDoor.O
