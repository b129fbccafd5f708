/-
  What path.Walk returns: the place that the model's walk comes to, or its error. Conditions: the file system lies in memory; links' texts of at most 5000 bytes.
-/
import Derived.Test.YtknfhphhcnbndaaGreatDoorGHPass
import Derived.ScopeJumps
import Derived.Test.YtknfhphhcnbndaaGreatDoorGVItem
set_option linter.unusedVariables false
set_option linter.unusedSimpArgs false
namespace Go.Proofs.YtknfhphhcnbndaaGreatDoor.V
open List renaming setIfInBounds_toArray → lt, set_cons_zero → l0, set_cons_succ → ls
open Go.Proofs.YtknfhphhcnbndaaGreatDoor.P
open Go.RowKit

theorem kOf_pass (M : List Nd) (u g : Int) (follow : Bool) (pl : Pl) (hops : Int) (r : List ByteArray) (sl : Bool) (i : Int) (h0 : 0 ≤ hops) (h4 : hops ≤ 40) :
    kOf M u g follow (40 - hops).toNat i r pl sl = if passE M ⟨pl, hops, r, sl⟩ i = 0 then goW M u g follow (40 - (hops + 1)).toNat (passS M ⟨pl, hops, r, sl⟩ i).left (passS M ⟨pl, hops, r, sl⟩ i).pl (passS M ⟨pl, hops, r, sl⟩ i).slash else bad (passE M ⟨pl, hops, r, sl⟩ i) := by
  unfold passE passS
  by_cases hh : hops = 40
  · subst hh
    rw [if_pos rfl]
    rfl
  · obtain ⟨k, hk⟩ : ∃ k, (40 - hops).toNat = k + 1 := ⟨(40 - hops).toNat - 1, by omega⟩
    rw [hk, if_neg hh, show (40 - (hops + 1)).toNat = k from by omega]
    rfl
/-- The steps that are left, at most. -/
def stepsLeft (a : Act) (w : World) : Nat := match a.tmps.getD 10 undef with
  | .pointer (some ad) => (match w.cell? ⟨ad.block, 7, none⟩, w.cell? ⟨ad.block, 8, none⟩ with
    | some (.int _ h), some (.slice _ n _) => (41 - h).toNat * 1000000 + n
    | _, _ => 0)
  | _ => 0
/-- The frame at the label. -/
def WAct (p : Nat) (u g : Int) (follow : Bool) (path : ByteArray) (B C : Nat) (a : Act) : Prop := ∃ u11 u12 u13 u14 u15 u16 u17 u18 u19 u20 u21 u22 u23 u24 u25 u26 u27 u28 u29 u30 u31 u32 u33 u34 u35 u36 u37 u38 u39 u40 u41 u42 u43 u44 u45 u46 u47 u48 u49 u50 u51 u52 u53 u54 u55 u56 u57 u58 u59 u60 u61 u62 u63 u64 u65 u66 u67 u68 u69 : Value, a = { tmps := #[.pointer (some ⟨p, 0, none⟩), .agg #[.int .i64 u, .int .i64 g], .string path, .bool follow, undef, .pointer (some ⟨C, 0, none⟩), undef, undef, .pointer (some ⟨C + 1, 0, none⟩), .int .i64 0, .pointer (some ⟨B, 0, none⟩), u11, u12, u13, u14, u15, u16, u17, u18, u19, u20, u21, u22, u23, u24, u25, u26, u27, u28, u29, u30, u31, u32, u33, u34, u35, u36, u37, u38, u39, u40, u41, u42, u43, u44, u45, u46, u47, u48, u49, u50, u51, u52, u53, u54, u55, u56, u57, u58, u59, u60, u61, u62, u63, u64, u65, u66, u67, u68, u69], defers := [] }
structure WJ (M : List Nd) (p : Nat) (u g : Int) (follow : Bool) (path : ByteArray) (B : Nat) (lv : Value) (s : St) (w0 w : World) : Prop where
  wk : Wk M p u g follow B lv s w
  goes : walkW M u g path follow = goW M u g follow (40 - s.hops).toNat s.left s.pl s.slash
  h0 : 0 ≤ s.hops
  h4 : s.hops ≤ 40
  few : (s.left.length : Int) ≤ 4100 + 5001 * s.hops
  res : w.heap[w0.heap.size + 1]? = some (.cells (plC zeroPl 0) 167 (0, 0))
  below : Below w0.heap.size w0 w
  big : w0.heap.size + 1 < B
def WJump (M : List Nd) (p : Nat) (u g : Int) (follow : Bool) (path : ByteArray) (w0 : World) (a : Act) (w : World) : Prop := ∃ B lv s, WAct p u g follow path B w0.heap.size a ∧ WJ M p u g follow path B lv s w0 w
theorem walk_post {RV : Value} {w W : World} {q : Pl} {hp e : Int} (hR : RV = .tuple #[plV q hp, .int .i64 e]) (hX : W.heap[w.heap.size + 1]? = some (.cells (plC zeroPl 0) 167 (0, 0))) (hb : Below w.heap.size w W) (tmps : Array Value) (h2 : tmps.getD 8 undef = .pointer (some ⟨w.heap.size + 1, 0, none⟩)) (h3 : tmps.getD 9 undef = .int .i64 e) :
    bodyPost Tryz.prog Tryz.f82 (fun e' w' => e' = .returned RV ∧ Below w.heap.size w w') Exit.ret { tmps := tmps, defers := [] } (W.setRow (w.heap.size + 1) (plC q hp)) := by
  subst hR
  refine bodyPost_ret (v := .tuple #[plV q hp, .int .i64 e]) ?_ rfl ⟨rfl, (but_setRow hX _).below hb (by omega) hb.size⟩
  rw [results_cell_tmp Tryz.results82]
  have hl := run_loadVar_row (P := Tryz.prog) (W.setRow (w.heap.size + 1) (plC q hp)) (w.heap.size + 1) 167 167 (plC q hp) (0, 0) _ (setRow_heap _ _ _ _ _ _ hX) Tryz.underlying167 rfl (by rw [sizePlace]; rfl)
  simp [asAddr, h2, h3, hl, Result.andThen, plV_C]
theorem walkBox_one (p : Nat) (u g : Int) (follow : Bool) : (boxOf p u g follow (.slice none 0 0) ⟨plOf 0, 0, [], false⟩).toArray.all (·.oneCell') = true := by simp [boxOf, Value.oneCell']
theorem steps_eq {M : List Nd} {p : Nat} {u g : Int} {follow : Bool} {B : Nat} {lv : Value} {s : St} {w : World} {a : Act} (h : Wk M p u g follow B lv s w) (ha : a.tmps.getD 10 undef = .pointer (some ⟨B, 0, none⟩)) : stepsLeft a w = (41 - s.hops).toNat * 1000000 + s.left.length := by
  obtain ⟨o, c, rfl⟩ := h.left.form
  have c7 := h.cell (j := 7) rfl
  have c8 := h.cell (j := 8) rfl
  unfold stepsLeft
  rw [ha]
  dsimp only
  rw [c7, c8]
theorem left_cons {w : World} {lo : Option Addr} {n lc : Nat} {l : List ByteArray} (h : NRow w (.slice lo n lc) l) (hl : ¬ l.length = 0) : ∃ A o, lo = some ⟨A, o, none⟩ ∧ l.length ≤ lc ∧ lc ≤ maxLen := by
  rcases h with ⟨_, rfl⟩ | ⟨A, o, c, cur, h1, h2, h3, _⟩
  · exact absurd rfl hl
  · simp only [Value.slice.injEq] at h1
    obtain ⟨rfl, _, rfl⟩ := h1
    exact ⟨A, o, rfl, h2, h3⟩
/-- The slice but for its first name. -/
def tailV (A o n c : Nat) : Value := .slice (some ⟨A, if c = 1 then o else o + 1, none⟩) (n - 1) (c - 1)
theorem left_tail {w : World} {A o n c : Nat} {x : ByteArray} {r : List ByteArray} (h : NRow w (.slice (some ⟨A, o, none⟩) n c) (x :: r)) : NRow w (tailV A o n c) r := by
  rcases h with ⟨e, _⟩ | ⟨A', o', c', cur, h1, h2, h3, h4, h5⟩
  · cases e
  · simp only [Value.slice.injEq, Option.some.injEq, Addr.mk.injEq, and_true] at h1
    obtain ⟨⟨rfl, rfl⟩, rfl, rfl⟩ := h1
    rw [List.length_cons] at h2
    refine .inr ⟨A, _, c - 1, cur, by unfold tailV; rw [List.length_cons, Nat.add_sub_cancel], by omega, by omega, h4, fun k y hk => ?_⟩
    by_cases hc : c = 1
    · have : r.length = 0 := by omega
      obtain rfl := List.eq_nil_of_length_eq_zero this
      simp at hk
    · rw [if_neg hc, show o + 1 + k = o + (k + 1) by omega]
      exact h5 (k + 1) y (by simpa using hk)
theorem prefixes_len (s : ByteArray) : ((namesL s).length : Int) ≤ (s.size : Int) + 1 := by have := namesL_len s; omega

set_option maxRecDepth 100000 in
set_option maxHeartbeats 8000000 in
theorem walk_any {M : List Nd} {p : Nat} {u g : Int} {follow : Bool} (path : ByteArray) (v0 w : World) (hf : Has v0 p M w) (ht : Tab w) (hn : 0 < M.length) (hE : FewE M) (hT : ∀ i, (linkT M i).size ≤ 5000) (hs : path.size ≤ 1000000) :
    Calls Tryz.prog 82 #[.pointer (some ⟨p, 0, none⟩), credV u g, .string path, .bool follow] w fun e w' => e = .returned (resV (walkW M u g path follow)) ∧ Below w.heap.size w w' := by
  obtain ⟨RV, hRV⟩ : ∃ r, resV (walkW M u g path follow) = r := ⟨_, rfl⟩
  rw [hRV]
  have HRV := Lib.hid hRV
  have HF := Lib.hid hf
  have HT := Lib.hid ht
  clear hRV hf ht
  unfold credV
  go_enter Tryz.func82, Tryz.ntmps82
  go_wp2
  have HB2 := Lib.hid (((Below.refl w.heap.size w).alloc (Nat.le_refl _) (.cells #[.int .i64 u, .int .i64 g] 44)).alloc (by simp) (.cells (plC zeroPl 0) 167))
  have HX2 := Lib.hid (show ((w.alloc (.cells #[.int .i64 u, .int .i64 g] 44)).alloc (.cells (plC zeroPl 0) 167)).heap[w.heap.size + 1]? = some (.cells (plC zeroPl 0) 167 (0, 0)) from by
    have := heap_alloc_new (w.alloc (.cells #[.int .i64 u, .int .i64 g] 44)) (.cells (plC zeroPl 0) 167)
    simpa using this)
  have HC2 := Lib.hid (show ((w.alloc (.cells #[.int .i64 u, .int .i64 g] 44)).alloc (.cells (plC zeroPl 0) 167)).heap[w.heap.size]? = some (.cells #[.int .i64 u, .int .i64 g] 44 (0, 0)) from by
    rw [((Below.refl (w.alloc (.cells #[.int .i64 u, .int .i64 g] 44)).heap.size (w.alloc (.cells #[.int .i64 u, .int .i64 g] 44))).alloc (Nat.le_refl _) _).block _ (by simp)]
    exact heap_alloc_new _ _)
  unfold plC zeroPl at HB2 HX2 HC2
  generalize (w.alloc (.cells #[.int .i64 u, .int .i64 g] 44)).alloc (.cells _ 167) = w2 at HB2 HX2 HC2 ⊢
  change Hid (w2.heap[w.heap.size + 1]? = some (.cells (plC zeroPl 0) 167 (0, 0))) at HX2
  refine wp_scope_jumps 0 (WJump M p u g follow path w) stepsLeft rfl ?_ ?_
  · by_cases hz : path.size = 0
    · have z3 : path.toList = [] := by rw [Go.Lib.toList_data, Array.size_eq_zero_iff.1 (show path.data.size = 0 from hz)]
      have z4 : path.toList.isEmpty = true := by rw [z3]; rfl
      have HR := Lib.hid (show RV = .tuple #[plV zeroPl 0, .int .i64 2] from by rw [← HRV.out]; unfold walkW; rw [if_pos hz]; rfl)
      clear hz
      go_wp2_with (refine wpList_store_row rfl 167 (.tmp 8) (.tmp 16) rfl (w.heap.size + 1) (plC zeroPl 0) rfl rfl _ _ HX2.out (by rw [sizePlace]; rfl) rfl (plC_one _ _) ?_)
      exact walk_post HR.out HX2.out HB2.out _ rfl rfl
    · have z3 : ¬ path.toList = [] := by
        rw [Go.Lib.toList_data]
        intro e
        have h1 : path.data.toList.length = 0 := by rw [e]; rfl
        have h2 : path.data.toList.length = path.size := by simp
        omega
      have z4 : path.toList.isEmpty = false := by simpa using z3
      by_cases hb : 4096 < path.size
      · have d4 : decide ((4096 : Int) < (path.size : Int)) = true := decide_eq_true (by omega)
        have HR := Lib.hid (show RV = .tuple #[plV zeroPl 0, .int .i64 7] from by rw [← HRV.out]; unfold walkW; rw [if_neg hz, if_pos hb]; rfl)
        clear hz hb
        go_wp2_with (refine wpList_store_row rfl 167 (.tmp 8) (.tmp 21) rfl (w.heap.size + 1) (plC zeroPl 0) rfl rfl _ _ HX2.out (by rw [sizePlace]; rfl) rfl (plC_one _ _) ?_)
        exact walk_post HR.out HX2.out HB2.out _ rfl rfl
      · have d4 : decide ((4096 : Int) < (path.size : Int)) = false := decide_eq_false (by omega)
        have HG := Lib.hid (show walkW M u g path follow = goW M u g follow 40 (namesL path) (plOf 0) (endsB path) from by unfold walkW; rw [if_neg hz, if_neg hb])
        have hsz : path.size ≤ 4096 := by omega
        clear hz hb
        go_upto_region 5 with fail
        have HCc := Lib.hid (show ∀ W, Below w2.heap.size w2 W → W.cell? ⟨w.heap.size, 0, none⟩ = some (.int .i64 u) ∧ W.cell? ⟨w.heap.size, 1, none⟩ = some (.int .i64 g) from fun W hW => by
          have q := (hW.block _ (heap_lt HC2.out)).trans HC2.out
          refine ⟨?_, ?_⟩ <;> (rw [cell_of_row _ _ _ _ _ _ q]; rfl))
        have HPl := Lib.hid (fun W : World => placeOf_any 0 W)
        unfold plV plOf at HPl
        have HW1 := Lib.hid (walkBox_one p u g follow)
        go_cut [10] from 22 to 26 (fun a10 wx => ∃ B, a10 = .pointer (some ⟨B, 0, none⟩) ∧ Below w2.heap.size w2 wx ∧ w2.heap.size ≤ B ∧ wx.heap[B]? = some (.cells (boxOf p u g follow (.slice none 0 0) ⟨plOf 0, 0, [], false⟩).toArray 232 (0, 0)))
        case first =>
          refine Till.region (z := 6) (S := fun w' => Below w2.heap.size w2 w') (by kernel_rfl) (below_drewN' (n := 1) (Below.refl _ _)) (fun hHeld => ?_)
          refine Till.take (i := 0) (oi := ⟨some 22, .move (.tmp 0), 25, "path.go:48", #[], none⟩) (v := .pointer (some ⟨p, 0, none⟩)) rfl (by kernel_rfl) (by kernel_rfl) (by kernel_rfl) (by kernel_rfl) (fun _ _ _ h => h) (Or.inl ⟨by rfl, fun w0 hS0 => ?_⟩) (by assumption) ?_
          · go_simp
          try simp only [Act.put, lt, l0, ls]
          refine Till.take (i := 1) (oi := ⟨some 23, .load 44 (.tmp 5), 44, "path.go:48", #[], none⟩) (v := .agg #[.int .i64 u, .int .i64 g]) rfl (by kernel_rfl) (by kernel_rfl) (by kernel_rfl) (by kernel_rfl) (fun _ _ _ h => h) (Or.inl ⟨by rfl, fun w0 hS0 => ?_⟩) (by assumption) ?_
          · obtain ⟨c0, c1⟩ := HCc.out _ hS0; go_simp
          try simp only [Act.put, lt, l0, ls]
          refine Till.take (i := 3) (oi := ⟨some 25, .move (.tmp 3), 4, "path.go:48", #[], none⟩) (v := .bool follow) rfl (by kernel_rfl) (by kernel_rfl) (by kernel_rfl) (by kernel_rfl) (fun _ _ _ h => h) (Or.inl ⟨by rfl, fun w0 hS0 => ?_⟩) (by assumption) ?_
          · go_simp
          try simp only [Act.put, lt, l0, ls]
          refine Till.two (i := 2) (j := 5) (o := ⟨some 24, .call ⟨.value (.func 134), #[.const (.int .i64 0)], #[3]⟩, 167, "path.go:48", #[], none⟩) (o' := ⟨some 10, .alloc 232, 0, "path.go:48", #[], none⟩) (by kernel_rfl) rfl rfl (fun K hK => ?_) (fun K hK => ?_)
          · go_simp
            refine (HPl.out _).mono ?_
            rintro e w6 ⟨rfl, hb6⟩
            have HB6 := Lib.hid (below_two hHeld hb6)
            clear hb6
            go_wp2_with fail
            refine hK.out _ _ (fun _ => HB6.out) ?_
            clear hK K
            have hHeld6 := HB6.out
            try simp only [Act.put, lt, l0, ls]
            refine Till.take (i := 4) (oi := ⟨some 26, .build 232 #[(0, .tmp 22), (1, .tmp 23), (2, .tmp 24), (6, .tmp 25)], 232, "path.go:48", #[⟨0, .data⟩, ⟨1, .data⟩, ⟨2, .data⟩, ⟨3, .data⟩], none⟩) (v := .agg #[.pointer (some ⟨p, 0, none⟩), .int .i64 u, .int .i64 g, .int .i64 0, .int .i64 0, .string ⟨#[]⟩, .int .i64 0, .int .i64 0, .slice none 0 0, .bool false, .bool follow]) rfl (by kernel_rfl) (by kernel_rfl) (by kernel_rfl) (by kernel_rfl) (fun _ _ _ h => h) (Or.inl ⟨by rfl, fun w0 hS0 => ?_⟩) (by assumption) ?_
            · go_simp
            try simp only [Act.put, lt, l0, ls]
            refine Till.next (i := 5) (o := ⟨some 10, .alloc 232, 0, "path.go:48", #[], none⟩) (by kernel_rfl) rfl (fun K hK => ?_)
            go_simp
            refine hK.out _ _ (fun _ => HB6.out.alloc HB6.out.size _) ?_
            clear hK K
            try simp only [Act.put, lt, l0, ls]
            refine Till.next (i := 6) (o := ⟨none, .store 232 (.tmp 10) (.tmp 26), 0, "path.go:48", #[⟨5, .data⟩, ⟨4, .data⟩, ⟨2, .chain⟩, ⟨0, .phase⟩, ⟨1, .phase⟩, ⟨2, .phase⟩, ⟨3, .phase⟩, ⟨4, .phase⟩, ⟨5, .phase⟩], none⟩) (by kernel_rfl) rfl (fun K hK => ?_)
            go_simp
            refine hK.out _ _ (fun q => absurd rfl q) ?_
            clear hK K
            try simp only [Act.put, lt, l0, ls]
            refine Till.done (by kernel_rfl) ?_
            go_wp2_with fail
            go_meet
            exact ⟨_, rfl, HB6.out.alloc HB6.out.size _, HB6.out.size, heap_alloc_new _ _⟩
          · go_simp
            refine hK.out _ _ (fun _ => hHeld.alloc hHeld.size _) ?_
            clear hK K
            try simp only [Act.put, lt, l0, ls]
            have hHeldA := hHeld.alloc hHeld.size (.cells #[.pointer none, .int .i64 0, .int .i64 0, .int .i64 0, .int .i64 0, .string ⟨#[]⟩, .int .i64 0, .int .i64 0, .slice none 0 0, .bool false, .bool false] 232)
            have HX6 := Lib.hid (heap_alloc_new w2.drew (.cells #[.pointer none, .int .i64 0, .int .i64 0, .int .i64 0, .int .i64 0, .string ⟨#[]⟩, .int .i64 0, .int .i64 0, .slice none 0 0, .bool false, .bool false] 232))
            have hS6 := hHeld.size
            refine Till.next (i := 2) (o := ⟨some 24, .call ⟨.value (.func 134), #[.const (.int .i64 0)], #[3]⟩, 167, "path.go:48", #[], none⟩) (by kernel_rfl) rfl (fun K hK => ?_)
            go_simp
            refine (HPl.out _).mono ?_
            rintro e w7 ⟨rfl, hb7⟩
            have HB7 := Lib.hid (below_two hHeldA hb7)
            have HX7 := Lib.hid ((hb7.block _ (heap_lt HX6.out)).trans HX6.out)
            clear hb7
            go_wp2_with fail
            refine hK.out _ _ (fun _ => HB7.out) ?_
            clear hK K
            have hHeld7 := HB7.out
            try simp only [Act.put, lt, l0, ls]
            refine Till.take (i := 4) (oi := ⟨some 26, .build 232 #[(0, .tmp 22), (1, .tmp 23), (2, .tmp 24), (6, .tmp 25)], 232, "path.go:48", #[⟨0, .data⟩, ⟨1, .data⟩, ⟨2, .data⟩, ⟨3, .data⟩], none⟩) (v := .agg #[.pointer (some ⟨p, 0, none⟩), .int .i64 u, .int .i64 g, .int .i64 0, .int .i64 0, .string ⟨#[]⟩, .int .i64 0, .int .i64 0, .slice none 0 0, .bool false, .bool follow]) rfl (by kernel_rfl) (by kernel_rfl) (by kernel_rfl) (by kernel_rfl) (fun _ _ _ h => h) (Or.inl ⟨by rfl, fun w0 hS0 => ?_⟩) (by assumption) ?_
            · go_simp
            try simp only [Act.put, lt, l0, ls]
            refine Till.next (i := 6) (o := ⟨none, .store 232 (.tmp 10) (.tmp 26), 0, "path.go:48", #[⟨5, .data⟩, ⟨4, .data⟩, ⟨2, .chain⟩, ⟨0, .phase⟩, ⟨1, .phase⟩, ⟨2, .phase⟩, ⟨3, .phase⟩, ⟨4, .phase⟩, ⟨5, .phase⟩], none⟩) (by kernel_rfl) rfl (fun K hK => ?_)
            refine step_store_row rfl 232 (.tmp 10) (.tmp 26) rfl w2.drew.heap.size (boxOf p u g follow (.slice none 0 0) ⟨plOf 0, 0, [], false⟩).toArray rfl rfl 232 _ HX7.out (by rw [sizeWalk]; rfl) rfl HW1.out ?_
            refine hK.out _ _ (fun q => absurd rfl q) ?_
            clear hK K
            try simp only [Act.put, lt, l0, ls]
            refine Till.done (by kernel_rfl) ?_
            go_wp2_with fail
            go_meet
            exact ⟨_, rfl, (but_setRow HX7.out _).below HB7.out hS6 HB7.out.size, hS6, setRow_heap _ _ _ _ _ _ HX7.out⟩
        case rest =>
          obtain ⟨B, rfl, hb3, hB3, hx3⟩ := hcut
          have HB3 := Lib.hid (below_two HB2.out hb3)
          have HX3 := Lib.hid ((hb3.block _ (heap_lt HX2.out)).trans HX2.out)
          have HB2s := HX2.out
          have hbig : w.heap.size + 1 < B := by have := heap_lt HX2.out; omega
          have HW3 := Lib.hid (show Wk M p u g follow B (.slice none 0 0) ⟨plOf 0, 0, [], false⟩ wc from
            ⟨⟨v0, HF.out.keep HB3.out, by have := HF.out.below.size; omega⟩, HT.out.keep HB3.out, hx3, .inl ⟨rfl, rfl⟩⟩)
          clear hb3 hB3 hx3 HCc HPl HW1 HC2 HB2s HX2 HB2
          have HNm := Lib.hid (names_any path wc (by omega))
          have hnl := prefixes_len path
          go_upto_region 7 with (go_at_call 135; refine HNm.out.mono ?_; rintro e w4 ⟨A, rfl, hA, hown, hb⟩; have HO4 := Lib.hid hown; have HB4 := Lib.hid hb; have HW4 := Lib.hid (HW3.out.keep hb); have c8 := HW4.out.cell (j := 8) rfl; have c9 := HW4.out.cell (j := 9) rfl; have f8 := HW4.out.frozen 8; have f9 := HW4.out.frozen 9; clear hown hb hA)
          have HJ0 : WJ M p u g follow path B (.slice (some ⟨A, 0, none⟩) (namesL path).length (namesL path).length) ⟨plOf 0, 0, namesL path, endsB path⟩ w ((w4.setCell ⟨B, 8, none⟩ (.slice (some ⟨A, 0, none⟩) (namesL path).length (namesL path).length)).setCell ⟨B, 9, none⟩ (.bool (endsB path))) := by
            have b8 := but_setCell w4 B 8 (.slice (some ⟨A, 0, none⟩) (namesL path).length (namesL path).length)
            have hr8 : NRow (w4.setCell ⟨B, 8, none⟩ (.slice (some ⟨A, 0, none⟩) (namesL path).length (namesL path).length)) (.slice (some ⟨A, 0, none⟩) (namesL path).length (namesL path).length) (namesL path) := HW4.out.row b8 (NRow.of_owns HO4.out)
            have k8 : Wk M p u g follow B (.slice (some ⟨A, 0, none⟩) (namesL path).length (namesL path).length) ⟨plOf 0, 0, namesL path, false⟩ (w4.setCell ⟨B, 8, none⟩ (.slice (some ⟨A, 0, none⟩) (namesL path).length (namesL path).length)) := HW4.out.but b8 (by rw [heap_setCell_same w4 B 8 _ _ _ HW4.out.box]; simp [boxOf]) hr8
            have b9 := but_setCell (w4.setCell ⟨B, 8, none⟩ (.slice (some ⟨A, 0, none⟩) (namesL path).length (namesL path).length)) B 9 (.bool (endsB path))
            have bb := but_trans b8 b9
            have hb4 : Below w.heap.size w w4 := below_two HB3.out HB4.out
            refine ⟨k8.set 9 _ rfl rfl, by rw [HG.out]; rfl, Int.le_refl _, (show (0 : Int) ≤ 40 by omega), ?_, ?_, bb.below hb4 (by omega) hb4.size, hbig⟩
            · show ((namesL path).length : Int) ≤ 4100 + 5001 * 0
              omega
            · rw [bb.block _ (by have h1 := heap_lt HX3.out; have h2 := HB4.out.size; omega) (by omega), HB4.out.block _ (heap_lt HX3.out)]
              exact HX3.out
          obtain ⟨lv, s, HJ⟩ : ∃ lv s, Hid (WJ M p u g follow path B lv s w ((w4.setCell ⟨B, 8, none⟩ (.slice (some ⟨A, 0, none⟩) (namesL path).length (namesL path).length)).setCell ⟨B, 9, none⟩ (.bool (endsB path)))) := ⟨_, _, Lib.hid HJ0⟩
          clear HJ0 c8 c9 f8 f9 HW4 HO4 HB4 HNm HW3 HX3 HB3 HG
          generalize (w4.setCell ⟨B, 8, none⟩ (.slice (some ⟨A, 0, none⟩) (namesL path).length (namesL path).length)).setCell ⟨B, 9, none⟩ (.bool (endsB path)) = w5 at HJ ⊢
          go_step3
          obtain ⟨lo, lc, hlv⟩ := HJ.out.wk.left.form
          subst hlv
          have c8 := HJ.out.wk.cell (j := 8) rfl
          have h0 := HJ.out.h0
          have h4 := HJ.out.h4
          by_cases hl0 : s.left.length = 0
          · have d0 : ((s.left.length : Int) == 0) = true := by rw [hl0]; rfl
            have HEd := Lib.hid (wend_any w5 HJ.out.wk hn)
            have HR := Lib.hid (show RV = resV (endW M s.slash s.pl s.hops) from by
              rw [← HRV.out, HJ.out.goes, List.eq_nil_of_length_eq_zero hl0, goW_nil, show (40 : Int) - ((40 - s.hops).toNat : Int) = s.hops from by omega])
            unfold resV plV at HEd
            clear hl0
            go_wp2_with (first
              | (go_at_call 136; refine HEd.out.mono ?_; rintro e w6 ⟨rfl, hb⟩; have HX6 := Lib.hid ((hb.block (w.heap.size + 1) (heap_lt HJ.out.res) (by have := HJ.out.big; omega)).trans HJ.out.res); have HB6 := Lib.hid (hb.below HJ.out.below (by have := HJ.out.big; omega) HJ.out.below.size); clear hb)
              | (refine wpList_store_row rfl 167 (.tmp 8) (.tmp 40) rfl (w.heap.size + 1) (plC (endW M s.slash s.pl s.hops).pl (endW M s.slash s.pl s.hops).hops) rfl rfl _ _ HX6.out (by rw [sizePlace]; rfl) rfl (plC_one _ _) ?_))
            exact walk_post (by rw [HR.out]; rfl) HX6.out HB6.out _ rfl rfl
          · have d0 : ((s.left.length : Int) == 0) = false := beq_eq_false_iff_ne.2 (by omega)
            obtain ⟨A, o, rfl, hlc, hcm⟩ := left_cons HJ.out.wk.left hl0
            obtain ⟨x, r, hxr⟩ : ∃ x r, s.left = x :: r := by
              cases hs : s.left with
              | nil => rw [hs] at hl0; exact absurd rfl hl0
              | cons x r => exact ⟨x, r, rfl⟩
            have hlr : s.left.length = r.length + 1 := by rw [hxr, List.length_cons]
            have a0 : w5.cell? ⟨A, o, none⟩ = some (.string x) := by
              have := HJ.out.wk.left.cell (k := 0) (x := x) (by rw [hxr]; rfl)
              simpa using this
            have e0 : 0 < s.left.length := by omega
            have HEn := Lib.hid (wenter_any x w5 HJ.out.wk hn hE)
            have HG := Lib.hid (show walkW M u g path follow = goW M u g follow (40 - s.hops).toNat (x :: r) s.pl s.slash from by rw [HJ.out.goes, hxr])
            have HXR := Lib.hid hxr
            clear hxr hl0
            cases hent : entW M u g s.pl.id x with
            | error e =>
              rw [hent] at HEn
              unfold entV plV zeroPl at HEn
              have hne : (e != 0) = true := by simpa using entW_err hent
              have HR := Lib.hid (show RV = .tuple #[plV zeroPl 0, .int .i64 e] from by rw [← HRV.out, HG.out, goW_cons, hent]; rfl)
              clear hent
              go_wp2_with (first
                | (go_at_call 137; refine HEn.out.mono ?_; rintro e' w6 ⟨rfl, hb⟩; have HX6 := Lib.hid (show ∀ o, (w6.alloc o).heap[w.heap.size + 1]? = some (.cells (plC zeroPl 0) 167 (0, 0)) from fun o => ((hb.alloc hb.size o).block _ (heap_lt HJ.out.res)).trans HJ.out.res); have HB6 := Lib.hid (show ∀ o, Below w.heap.size w (w6.alloc o) from fun o => below_two HJ.out.below (hb.alloc hb.size o)); clear hb)
                | (refine wpList_store_row rfl 167 (.tmp 8) (.tmp 52) rfl (w.heap.size + 1) (plC zeroPl 0) rfl rfl _ _ (HX6.out _) (by rw [sizePlace]; rfl) rfl (plC_one _ _) ?_))
              exact walk_post HR.out (HX6.out _) (HB6.out _) _ rfl rfl
            | ok q =>
              rw [hent] at HEn
              unfold entV plV at HEn
              have HG2 := Lib.hid (show walkW M u g path follow = if thruW M follow s.slash r q.id = true then kOf M u g follow (40 - s.hops).toNat q.id r s.pl s.slash else goW M u g follow (40 - s.hops).toNat r q s.slash from by rw [HG.out, goW_cons, hent])
              clear hent
              go_upto_region 12 with (go_at_call 137; refine HEn.out.mono ?_; rintro e' w6 ⟨rfl, hb⟩; have HB6 := Lib.hid hb; clear hb)
              have HX7 := Lib.hid (heap_alloc_new w6 (.cells #[.int .i64 q.id, .int .i64 q.dir, .string q.name, .int .i64 0] 167))
              have HA7 := Lib.hid (HB6.out.alloc HB6.out.size (.cells #[.int .i64 q.id, .int .i64 q.dir, .string q.name, .int .i64 0] 167))
              have HBn := Lib.hid (show B < w6.heap.size from by have h1 := heap_lt HJ.out.wk.box; have h2 := HB6.out.size; omega)
              generalize w6.alloc (.cells #[.int .i64 q.id, .int .i64 q.dir, .string q.name, .int .i64 0] 167) = w7 at HX7 HA7 ⊢
              generalize w6.heap.size = Bn at HX7 HBn ⊢
              have HW7 := Lib.hid (HJ.out.wk.keep HA7.out)
              clear HB6 HEn a0 c8
              have c8 := HW7.out.cell (j := 8) rfl
              have f8 := HW7.out.frozen 8
              have hlt2 : (1 : Int) ≤ (s.left.length : Int) := by omega
              by_cases hc1 : lc = 1
              · go_upto_region 13 with fail
                have HW8 := Lib.hid (show Wk M p u g follow B (.slice (some ⟨A, o, none⟩) r.length 0) ⟨s.pl, s.hops, r, s.slash⟩ (w7.setCell ⟨B, 8, none⟩ (.slice (some ⟨A, o, none⟩) r.length 0)) from by
                  refine HW7.out.but (but_setCell w7 B 8 _) (by rw [heap_setCell_same w7 B 8 _ _ _ HW7.out.box]; simp [boxOf]) (HW7.out.row (but_setCell w7 B 8 _) ?_)
                  have hx := HW7.out.left
                  rw [HXR.out] at hx
                  have := left_tail hx
                  unfold tailV at this
                  simpa [HXR.out, hc1] using this)
                have HX8 := Lib.hid (show (w7.setCell ⟨B, 8, none⟩ (.slice (some ⟨A, o, none⟩) r.length 0)).heap[Bn]? = _ from (heap_setCell_other _ _ _ _ (show Bn ≠ B from by have := HBn.out; omega)).trans HX7.out)
                have HR8 := Lib.hid (show (w7.setCell ⟨B, 8, none⟩ (.slice (some ⟨A, o, none⟩) r.length 0)).heap[w.heap.size + 1]? = some (.cells (plC zeroPl 0) 167 (0, 0)) from (heap_setCell_other _ _ _ _ (show w.heap.size + 1 ≠ B from by have := HJ.out.big; omega)).trans ((HA7.out.block _ (heap_lt HJ.out.res)).trans HJ.out.res))
                have HB8 := Lib.hid (show Below w.heap.size w (w7.setCell ⟨B, 8, none⟩ (.slice (some ⟨A, o, none⟩) r.length 0)) from (but_setCell w7 B 8 _).below (below_two HJ.out.below HA7.out) (by have := HJ.out.big; omega) (below_two HJ.out.below HA7.out).size)
                generalize w7.setCell ⟨B, 8, none⟩ (.slice (some ⟨A, o, none⟩) r.length 0) = w8 at HW8 HX8 HR8 HB8 ⊢
                have hr6 : r.length ≤ 1000000 := by have := HJ.out.few; omega
                have HTh := Lib.hid (wthru_any q.id w8 HW8.out hn hr6)
                have n0 : w8.cell? ⟨Bn, 0, none⟩ = some (.int .i64 q.id) := by rw [cell_of_row _ _ _ _ _ _ HX8.out]; rfl
                cases hth : thruW M follow s.slash r q.id with
                | false =>
                  have hth' : thruW M follow (St.mk s.pl s.hops r s.slash).slash (St.mk s.pl s.hops r s.slash).left q.id = false := hth
                  rw [hth'] at HTh
                  rw [hth, if_neg (by simp)] at HG2
                  clear hth hth'
                  go_upto_region 17 with (go_at_call 138; refine HTh.out.mono ?_; rintro e' w9 ⟨rfl, hb⟩; have HW9 := Lib.hid (HW8.out.keep hb); have HX9 := Lib.hid ((hb.block _ (heap_lt HX8.out)).trans HX8.out); have HR9 := Lib.hid ((hb.block _ (heap_lt HR8.out)).trans HR8.out); have HB9 := Lib.hid (below_two HB8.out hb); clear hb)
                  clear n0
                  have n0 : w9.cell? ⟨Bn, 0, none⟩ = some (.int .i64 q.id) := by rw [cell_of_row _ _ _ _ _ _ HX9.out]; rfl
                  have n1 : w9.cell? ⟨Bn, 1, none⟩ = some (.int .i64 q.dir) := by rw [cell_of_row _ _ _ _ _ _ HX9.out]; rfl
                  have n2 : w9.cell? ⟨Bn, 2, none⟩ = some (.string q.name) := by rw [cell_of_row _ _ _ _ _ _ HX9.out]; rfl
                  have n3 : w9.cell? ⟨Bn, 3, none⟩ = some (.int .i64 0) := by rw [cell_of_row _ _ _ _ _ _ HX9.out]; rfl
                  have g3 := HW9.out.cell (j := 3) rfl
                  have g4 := HW9.out.cell (j := 4) rfl
                  have g5 := HW9.out.cell (j := 5) rfl
                  have g6 := HW9.out.cell (j := 6) rfl
                  have k3 := HW9.out.frozen 3
                  have k4 := HW9.out.frozen 4
                  have k5 := HW9.out.frozen 5
                  have k6 := HW9.out.frozen 6
                  have HJ9 := Lib.hid (show WJ M p u g follow path B (.slice (some ⟨A, o, none⟩) r.length 0) ⟨q, s.hops, r, s.slash⟩ w ((((w9.setCell ⟨B, 3, none⟩ (.int .i64 q.id)).setCell ⟨B, 4, none⟩ (.int .i64 q.dir)).setCell ⟨B, 5, none⟩ (.string q.name)).setCell ⟨B, 6, none⟩ (.int .i64 0)) from by
                    have hw := (((HW9.out.set (s' := ⟨⟨q.id, s.pl.dir, s.pl.name⟩, s.hops, r, s.slash⟩) 3 (.int .i64 q.id) rfl rfl).set (s' := ⟨⟨q.id, q.dir, s.pl.name⟩, s.hops, r, s.slash⟩) 4 (.int .i64 q.dir) rfl rfl).set (s' := ⟨q, s.hops, r, s.slash⟩) 5 (.string q.name) rfl rfl).set (s' := ⟨q, s.hops, r, s.slash⟩) 6 (.int .i64 0) rfl rfl
                    have bb := but_trans (but_trans (but_trans (but_setCell w9 B 3 (.int .i64 q.id)) (but_setCell _ B 4 (.int .i64 q.dir))) (but_setCell _ B 5 (.string q.name))) (but_setCell _ B 6 (.int .i64 0))
                    refine ⟨hw, HG2.out, h0, h4, ?_, (bb.block _ (heap_lt HR9.out) (by have := HJ.out.big; omega)).trans HR9.out, bb.below HB9.out (by have := HJ.out.big; omega) HB9.out.size, HJ.out.big⟩
                    have := HJ.out.few
                    show (r.length : Int) ≤ 4100 + 5001 * s.hops
                    omega)
                  clear HW9 HX9 HR9 HB9 HTh HW8 HX8 HR8 HB8
                  go_wp2_with fail
                  go_step3
                  exact ⟨rfl, B, _, _, ⟨_, _, _, _, _, _, _, _, _, _, _, _, _, _, _, _, _, _, _, _, _, _, _, _, _, _, _, _, _, _, _, _, _, _, _, _, _, _, _, _, _, _, _, _, _, _, _, _, _, _, _, _, _, _, _, _, _, _, _, rfl⟩, HJ9.out⟩
                | true =>
                  have hth' : thruW M follow (St.mk s.pl s.hops r s.slash).slash (St.mk s.pl s.hops r s.slash).left q.id = true := hth
                  rw [hth'] at HTh
                  rw [hth, if_pos rfl, kOf_pass M u g follow s.pl s.hops r s.slash q.id h0 h4] at HG2
                  clear hth hth'
                  have HP9 := Lib.hid (fun W (hW : Wk M p u g follow B (.slice (some ⟨A, o, none⟩) r.length 0) ⟨s.pl, s.hops, r, s.slash⟩ W) => wpass_any q.id W hW hn (hT q.id) hr6 h0 h4)
                  go_upto_region 14 with (go_at_call 138; refine HTh.out.mono ?_; rintro e' w9 ⟨rfl, hb⟩; have HW9 := Lib.hid (HW8.out.keep hb); have HX9 := Lib.hid ((hb.block _ (heap_lt HX8.out)).trans HX8.out); have HR9 := Lib.hid ((hb.block _ (heap_lt HR8.out)).trans HR8.out); have HB9 := Lib.hid (below_two HB8.out hb); clear hb)
                  clear n0
                  have n0 : w9.cell? ⟨Bn, 0, none⟩ = some (.int .i64 q.id) := by rw [cell_of_row _ _ _ _ _ _ HX9.out]; rfl
                  go_wp2_with fail
                  refine (HP9.out _ HW9.out).mono ?_
                  rintro e' w10 ⟨lv', rfl, hbut, hwk⟩
                  have HBu := Lib.hid hbut
                  have HWk := Lib.hid hwk
                  clear hbut hwk n0
                  have HR10 := Lib.hid ((HBu.out.block _ (heap_lt HR9.out) (by have := HJ.out.big; omega)).trans HR9.out)
                  have HB10 := Lib.hid (HBu.out.below HB9.out (by have := HJ.out.big; omega) HB9.out.size)
                  by_cases hp : passE M ⟨s.pl, s.hops, r, s.slash⟩ q.id = 0
                  · rw [if_pos hp] at HG2
                    have HJ10 := Lib.hid (show WJ M p u g follow path B lv' (passS M ⟨s.pl, s.hops, r, s.slash⟩ q.id) w w10 from by
                      have h40 : s.hops ≠ 40 := by
                        intro e
                        unfold passE at hp
                        rw [if_pos e] at hp
                        cases hp
                      refine ⟨HWk.out hp, HG2.out, (show (0 : Int) ≤ s.hops + 1 by omega), (show s.hops + 1 ≤ 40 by omega), ?_, HR10.out, HB10.out, HJ.out.big⟩
                      have h1 := HJ.out.few
                      have h2 := namesL_len (linkT M q.id)
                      have h3 := hT q.id
                      show ((namesL (linkT M q.id) ++ r).length : Int) ≤ 4100 + 5001 * (s.hops + 1)
                      rw [List.length_append]
                      omega)
                    rw [hp]
                    have hfw := HJ10.out.few
                    have hh : (passS M ⟨s.pl, s.hops, r, s.slash⟩ q.id).hops = s.hops + 1 := rfl
                    have h41 := HJ10.out.h4
                    clear HW9 HX9 HR9 HB9 HTh HW8 HX8 HR8 HB8 HWk HBu HP9 HR10 HB10 hp
                    rw [hh] at hfw h41
                    have HFW := Lib.hid hfw
                    have HH := Lib.hid hh
                    clear hfw hh
                    go_wp2_with fail
                    go_step3
                    exact ⟨rfl, B, _, _, ⟨_, _, _, _, _, _, _, _, _, _, _, _, _, _, _, _, _, _, _, _, _, _, _, _, _, _, _, _, _, _, _, _, _, _, _, _, _, _, _, _, _, _, _, _, _, _, _, _, _, _, _, _, _, _, _, _, _, _, _, rfl⟩, HJ10.out⟩
                  · rw [if_neg hp] at HG2
                    have hne : (passE M ⟨s.pl, s.hops, r, s.slash⟩ q.id != 0) = true := by simpa using hp
                    have HR := Lib.hid (show RV = .tuple #[plV zeroPl 0, .int .i64 (passE M ⟨s.pl, s.hops, r, s.slash⟩ q.id)] from by rw [← HRV.out, HG2.out]; rfl)
                    clear hp
                    go_wp2_with (refine wpList_store_row rfl 167 (.tmp 8) (.tmp 66) rfl (w.heap.size + 1) (plC zeroPl 0) rfl rfl _ _ HR10.out (by rw [sizePlace]; rfl) rfl (plC_one _ _) ?_)
                    exact walk_post HR.out HR10.out HB10.out _ rfl rfl
              · go_upto_region 13 with fail
                have HW8 := Lib.hid (show Wk M p u g follow B (.slice (some ⟨A, o + 1, none⟩) r.length (lc - 1)) ⟨s.pl, s.hops, r, s.slash⟩ (w7.setCell ⟨B, 8, none⟩ (.slice (some ⟨A, o + 1, none⟩) r.length (lc - 1))) from by
                  refine HW7.out.but (but_setCell w7 B 8 _) (by rw [heap_setCell_same w7 B 8 _ _ _ HW7.out.box]; simp [boxOf]) (HW7.out.row (but_setCell w7 B 8 _) ?_)
                  have hx := HW7.out.left
                  rw [HXR.out] at hx
                  have := left_tail hx
                  unfold tailV at this
                  simpa [HXR.out, hc1] using this)
                have HX8 := Lib.hid (show (w7.setCell ⟨B, 8, none⟩ (.slice (some ⟨A, o + 1, none⟩) r.length (lc - 1))).heap[Bn]? = _ from (heap_setCell_other _ _ _ _ (show Bn ≠ B from by have := HBn.out; omega)).trans HX7.out)
                have HR8 := Lib.hid (show (w7.setCell ⟨B, 8, none⟩ (.slice (some ⟨A, o + 1, none⟩) r.length (lc - 1))).heap[w.heap.size + 1]? = some (.cells (plC zeroPl 0) 167 (0, 0)) from (heap_setCell_other _ _ _ _ (show w.heap.size + 1 ≠ B from by have := HJ.out.big; omega)).trans ((HA7.out.block _ (heap_lt HJ.out.res)).trans HJ.out.res))
                have HB8 := Lib.hid (show Below w.heap.size w (w7.setCell ⟨B, 8, none⟩ (.slice (some ⟨A, o + 1, none⟩) r.length (lc - 1))) from (but_setCell w7 B 8 _).below (below_two HJ.out.below HA7.out) (by have := HJ.out.big; omega) (below_two HJ.out.below HA7.out).size)
                generalize w7.setCell ⟨B, 8, none⟩ (.slice (some ⟨A, o + 1, none⟩) r.length (lc - 1)) = w8 at HW8 HX8 HR8 HB8 ⊢
                have hr6 : r.length ≤ 1000000 := by have := HJ.out.few; omega
                have HTh := Lib.hid (wthru_any q.id w8 HW8.out hn hr6)
                have n0 : w8.cell? ⟨Bn, 0, none⟩ = some (.int .i64 q.id) := by rw [cell_of_row _ _ _ _ _ _ HX8.out]; rfl
                cases hth : thruW M follow s.slash r q.id with
                | false =>
                  have hth' : thruW M follow (St.mk s.pl s.hops r s.slash).slash (St.mk s.pl s.hops r s.slash).left q.id = false := hth
                  rw [hth'] at HTh
                  rw [hth, if_neg (by simp)] at HG2
                  clear hth hth'
                  go_upto_region 17 with (go_at_call 138; refine HTh.out.mono ?_; rintro e' w9 ⟨rfl, hb⟩; have HW9 := Lib.hid (HW8.out.keep hb); have HX9 := Lib.hid ((hb.block _ (heap_lt HX8.out)).trans HX8.out); have HR9 := Lib.hid ((hb.block _ (heap_lt HR8.out)).trans HR8.out); have HB9 := Lib.hid (below_two HB8.out hb); clear hb)
                  clear n0
                  have n0 : w9.cell? ⟨Bn, 0, none⟩ = some (.int .i64 q.id) := by rw [cell_of_row _ _ _ _ _ _ HX9.out]; rfl
                  have n1 : w9.cell? ⟨Bn, 1, none⟩ = some (.int .i64 q.dir) := by rw [cell_of_row _ _ _ _ _ _ HX9.out]; rfl
                  have n2 : w9.cell? ⟨Bn, 2, none⟩ = some (.string q.name) := by rw [cell_of_row _ _ _ _ _ _ HX9.out]; rfl
                  have n3 : w9.cell? ⟨Bn, 3, none⟩ = some (.int .i64 0) := by rw [cell_of_row _ _ _ _ _ _ HX9.out]; rfl
                  have g3 := HW9.out.cell (j := 3) rfl
                  have g4 := HW9.out.cell (j := 4) rfl
                  have g5 := HW9.out.cell (j := 5) rfl
                  have g6 := HW9.out.cell (j := 6) rfl
                  have k3 := HW9.out.frozen 3
                  have k4 := HW9.out.frozen 4
                  have k5 := HW9.out.frozen 5
                  have k6 := HW9.out.frozen 6
                  have HJ9 := Lib.hid (show WJ M p u g follow path B (.slice (some ⟨A, o + 1, none⟩) r.length (lc - 1)) ⟨q, s.hops, r, s.slash⟩ w ((((w9.setCell ⟨B, 3, none⟩ (.int .i64 q.id)).setCell ⟨B, 4, none⟩ (.int .i64 q.dir)).setCell ⟨B, 5, none⟩ (.string q.name)).setCell ⟨B, 6, none⟩ (.int .i64 0)) from by
                    have hw := (((HW9.out.set (s' := ⟨⟨q.id, s.pl.dir, s.pl.name⟩, s.hops, r, s.slash⟩) 3 (.int .i64 q.id) rfl rfl).set (s' := ⟨⟨q.id, q.dir, s.pl.name⟩, s.hops, r, s.slash⟩) 4 (.int .i64 q.dir) rfl rfl).set (s' := ⟨q, s.hops, r, s.slash⟩) 5 (.string q.name) rfl rfl).set (s' := ⟨q, s.hops, r, s.slash⟩) 6 (.int .i64 0) rfl rfl
                    have bb := but_trans (but_trans (but_trans (but_setCell w9 B 3 (.int .i64 q.id)) (but_setCell _ B 4 (.int .i64 q.dir))) (but_setCell _ B 5 (.string q.name))) (but_setCell _ B 6 (.int .i64 0))
                    refine ⟨hw, HG2.out, h0, h4, ?_, (bb.block _ (heap_lt HR9.out) (by have := HJ.out.big; omega)).trans HR9.out, bb.below HB9.out (by have := HJ.out.big; omega) HB9.out.size, HJ.out.big⟩
                    have := HJ.out.few
                    show (r.length : Int) ≤ 4100 + 5001 * s.hops
                    omega)
                  clear HW9 HX9 HR9 HB9 HTh HW8 HX8 HR8 HB8
                  go_wp2_with fail
                  go_step3
                  exact ⟨rfl, B, _, _, ⟨_, _, _, _, _, _, _, _, _, _, _, _, _, _, _, _, _, _, _, _, _, _, _, _, _, _, _, _, _, _, _, _, _, _, _, _, _, _, _, _, _, _, _, _, _, _, _, _, _, _, _, _, _, _, _, _, _, _, _, rfl⟩, HJ9.out⟩
                | true =>
                  have hth' : thruW M follow (St.mk s.pl s.hops r s.slash).slash (St.mk s.pl s.hops r s.slash).left q.id = true := hth
                  rw [hth'] at HTh
                  rw [hth, if_pos rfl, kOf_pass M u g follow s.pl s.hops r s.slash q.id h0 h4] at HG2
                  clear hth hth'
                  have HP9 := Lib.hid (fun W (hW : Wk M p u g follow B (.slice (some ⟨A, o + 1, none⟩) r.length (lc - 1)) ⟨s.pl, s.hops, r, s.slash⟩ W) => wpass_any q.id W hW hn (hT q.id) hr6 h0 h4)
                  go_upto_region 14 with (go_at_call 138; refine HTh.out.mono ?_; rintro e' w9 ⟨rfl, hb⟩; have HW9 := Lib.hid (HW8.out.keep hb); have HX9 := Lib.hid ((hb.block _ (heap_lt HX8.out)).trans HX8.out); have HR9 := Lib.hid ((hb.block _ (heap_lt HR8.out)).trans HR8.out); have HB9 := Lib.hid (below_two HB8.out hb); clear hb)
                  clear n0
                  have n0 : w9.cell? ⟨Bn, 0, none⟩ = some (.int .i64 q.id) := by rw [cell_of_row _ _ _ _ _ _ HX9.out]; rfl
                  go_wp2_with fail
                  refine (HP9.out _ HW9.out).mono ?_
                  rintro e' w10 ⟨lv', rfl, hbut, hwk⟩
                  have HBu := Lib.hid hbut
                  have HWk := Lib.hid hwk
                  clear hbut hwk n0
                  have HR10 := Lib.hid ((HBu.out.block _ (heap_lt HR9.out) (by have := HJ.out.big; omega)).trans HR9.out)
                  have HB10 := Lib.hid (HBu.out.below HB9.out (by have := HJ.out.big; omega) HB9.out.size)
                  by_cases hp : passE M ⟨s.pl, s.hops, r, s.slash⟩ q.id = 0
                  · rw [if_pos hp] at HG2
                    have HJ10 := Lib.hid (show WJ M p u g follow path B lv' (passS M ⟨s.pl, s.hops, r, s.slash⟩ q.id) w w10 from by
                      have h40 : s.hops ≠ 40 := by
                        intro e
                        unfold passE at hp
                        rw [if_pos e] at hp
                        cases hp
                      refine ⟨HWk.out hp, HG2.out, (show (0 : Int) ≤ s.hops + 1 by omega), (show s.hops + 1 ≤ 40 by omega), ?_, HR10.out, HB10.out, HJ.out.big⟩
                      have h1 := HJ.out.few
                      have h2 := namesL_len (linkT M q.id)
                      have h3 := hT q.id
                      show ((namesL (linkT M q.id) ++ r).length : Int) ≤ 4100 + 5001 * (s.hops + 1)
                      rw [List.length_append]
                      omega)
                    rw [hp]
                    have hfw := HJ10.out.few
                    have hh : (passS M ⟨s.pl, s.hops, r, s.slash⟩ q.id).hops = s.hops + 1 := rfl
                    have h41 := HJ10.out.h4
                    clear HW9 HX9 HR9 HB9 HTh HW8 HX8 HR8 HB8 HWk HBu HP9 HR10 HB10 hp
                    rw [hh] at hfw h41
                    have HFW := Lib.hid hfw
                    have HH := Lib.hid hh
                    clear hfw hh
                    go_wp2_with fail
                    go_step3
                    exact ⟨rfl, B, _, _, ⟨_, _, _, _, _, _, _, _, _, _, _, _, _, _, _, _, _, _, _, _, _, _, _, _, _, _, _, _, _, _, _, _, _, _, _, _, _, _, _, _, _, _, _, _, _, _, _, _, _, _, _, _, _, _, _, _, _, _, _, rfl⟩, HJ10.out⟩
                  · rw [if_neg hp] at HG2
                    have hne : (passE M ⟨s.pl, s.hops, r, s.slash⟩ q.id != 0) = true := by simpa using hp
                    have HR := Lib.hid (show RV = .tuple #[plV zeroPl 0, .int .i64 (passE M ⟨s.pl, s.hops, r, s.slash⟩ q.id)] from by rw [← HRV.out, HG2.out]; rfl)
                    clear hp
                    go_wp2_with (refine wpList_store_row rfl 167 (.tmp 8) (.tmp 66) rfl (w.heap.size + 1) (plC zeroPl 0) rfl rfl _ _ HR10.out (by rw [sizePlace]; rfl) rfl (plC_one _ _) ?_)
                    exact walk_post HR.out HR10.out HB10.out _ rfl rfl
  · rintro a' w5 ⟨B, lv, s, ⟨u11, u12, u13, u14, u15, u16, u17, u18, u19, u20, u21, u22, u23, u24, u25, u26, u27, u28, u29, u30, u31, u32, u33, u34, u35, u36, u37, u38, u39, u40, u41, u42, u43, u44, u45, u46, u47, u48, u49, u50, u51, u52, u53, u54, u55, u56, u57, u58, u59, u60, u61, u62, u63, u64, u65, u66, u67, u68, u69, rfl⟩, hJ⟩
    have HJ := Lib.hid hJ
    clear hJ HX2 HC2 HB2
    obtain ⟨lo, lc, hlv⟩ := HJ.out.wk.left.form
    subst hlv
    have c8 := HJ.out.wk.cell (j := 8) rfl
    have h0 := HJ.out.h0
    have h4 := HJ.out.h4
    by_cases hl0 : s.left.length = 0
    · have d0 : ((s.left.length : Int) == 0) = true := by rw [hl0]; rfl
      have HEd := Lib.hid (wend_any w5 HJ.out.wk hn)
      have HR := Lib.hid (show RV = resV (endW M s.slash s.pl s.hops) from by
        rw [← HRV.out, HJ.out.goes, List.eq_nil_of_length_eq_zero hl0, goW_nil, show (40 : Int) - ((40 - s.hops).toNat : Int) = s.hops from by omega])
      unfold resV plV at HEd
      clear hl0
      go_wp2_with (first
        | (go_at_call 136; refine HEd.out.mono ?_; rintro e w6 ⟨rfl, hb⟩; have HX6 := Lib.hid ((hb.block (w.heap.size + 1) (heap_lt HJ.out.res) (by have := HJ.out.big; omega)).trans HJ.out.res); have HB6 := Lib.hid (hb.below HJ.out.below (by have := HJ.out.big; omega) HJ.out.below.size); clear hb)
        | (refine wpList_store_row rfl 167 (.tmp 8) (.tmp 40) rfl (w.heap.size + 1) (plC (endW M s.slash s.pl s.hops).pl (endW M s.slash s.pl s.hops).hops) rfl rfl _ _ HX6.out (by rw [sizePlace]; rfl) rfl (plC_one _ _) ?_))
      exact walk_post (by rw [HR.out]; rfl) HX6.out HB6.out _ rfl rfl
    · have d0 : ((s.left.length : Int) == 0) = false := beq_eq_false_iff_ne.2 (by omega)
      obtain ⟨A, o, rfl, hlc, hcm⟩ := left_cons HJ.out.wk.left hl0
      obtain ⟨x, r, hxr⟩ : ∃ x r, s.left = x :: r := by
        cases hs : s.left with
        | nil => rw [hs] at hl0; exact absurd rfl hl0
        | cons x r => exact ⟨x, r, rfl⟩
      have hlr : s.left.length = r.length + 1 := by rw [hxr, List.length_cons]
      have a0 : w5.cell? ⟨A, o, none⟩ = some (.string x) := by
        have := HJ.out.wk.left.cell (k := 0) (x := x) (by rw [hxr]; rfl)
        simpa using this
      have e0 : 0 < s.left.length := by omega
      have HEn := Lib.hid (wenter_any x w5 HJ.out.wk hn hE)
      have HG := Lib.hid (show walkW M u g path follow = goW M u g follow (40 - s.hops).toNat (x :: r) s.pl s.slash from by rw [HJ.out.goes, hxr])
      have HXR := Lib.hid hxr
      clear hxr hl0
      cases hent : entW M u g s.pl.id x with
      | error e =>
        rw [hent] at HEn
        unfold entV plV zeroPl at HEn
        have hne : (e != 0) = true := by simpa using entW_err hent
        have HR := Lib.hid (show RV = .tuple #[plV zeroPl 0, .int .i64 e] from by rw [← HRV.out, HG.out, goW_cons, hent]; rfl)
        clear hent
        go_wp2_with (first
          | (go_at_call 137; refine HEn.out.mono ?_; rintro e' w6 ⟨rfl, hb⟩; have HX6 := Lib.hid (show ∀ o, (w6.alloc o).heap[w.heap.size + 1]? = some (.cells (plC zeroPl 0) 167 (0, 0)) from fun o => ((hb.alloc hb.size o).block _ (heap_lt HJ.out.res)).trans HJ.out.res); have HB6 := Lib.hid (show ∀ o, Below w.heap.size w (w6.alloc o) from fun o => below_two HJ.out.below (hb.alloc hb.size o)); clear hb)
          | (refine wpList_store_row rfl 167 (.tmp 8) (.tmp 52) rfl (w.heap.size + 1) (plC zeroPl 0) rfl rfl _ _ (HX6.out _) (by rw [sizePlace]; rfl) rfl (plC_one _ _) ?_))
        exact walk_post HR.out (HX6.out _) (HB6.out _) _ rfl rfl
      | ok q =>
        rw [hent] at HEn
        unfold entV plV at HEn
        have HG2 := Lib.hid (show walkW M u g path follow = if thruW M follow s.slash r q.id = true then kOf M u g follow (40 - s.hops).toNat q.id r s.pl s.slash else goW M u g follow (40 - s.hops).toNat r q s.slash from by rw [HG.out, goW_cons, hent])
        clear hent
        go_upto_region 12 with (go_at_call 137; refine HEn.out.mono ?_; rintro e' w6 ⟨rfl, hb⟩; have HB6 := Lib.hid hb; clear hb)
        have HX7 := Lib.hid (heap_alloc_new w6 (.cells #[.int .i64 q.id, .int .i64 q.dir, .string q.name, .int .i64 0] 167))
        have HA7 := Lib.hid (HB6.out.alloc HB6.out.size (.cells #[.int .i64 q.id, .int .i64 q.dir, .string q.name, .int .i64 0] 167))
        have HBn := Lib.hid (show B < w6.heap.size from by have h1 := heap_lt HJ.out.wk.box; have h2 := HB6.out.size; omega)
        generalize w6.alloc (.cells #[.int .i64 q.id, .int .i64 q.dir, .string q.name, .int .i64 0] 167) = w7 at HX7 HA7 ⊢
        generalize w6.heap.size = Bn at HX7 HBn ⊢
        have HW7 := Lib.hid (HJ.out.wk.keep HA7.out)
        clear HB6 HEn a0 c8
        have c8 := HW7.out.cell (j := 8) rfl
        have f8 := HW7.out.frozen 8
        have hlt2 : (1 : Int) ≤ (s.left.length : Int) := by omega
        by_cases hc1 : lc = 1
        · go_upto_region 13 with fail
          have HW8 := Lib.hid (show Wk M p u g follow B (.slice (some ⟨A, o, none⟩) r.length 0) ⟨s.pl, s.hops, r, s.slash⟩ (w7.setCell ⟨B, 8, none⟩ (.slice (some ⟨A, o, none⟩) r.length 0)) from by
            refine HW7.out.but (but_setCell w7 B 8 _) (by rw [heap_setCell_same w7 B 8 _ _ _ HW7.out.box]; simp [boxOf]) (HW7.out.row (but_setCell w7 B 8 _) ?_)
            have hx := HW7.out.left
            rw [HXR.out] at hx
            have := left_tail hx
            unfold tailV at this
            simpa [HXR.out, hc1] using this)
          have HX8 := Lib.hid (show (w7.setCell ⟨B, 8, none⟩ (.slice (some ⟨A, o, none⟩) r.length 0)).heap[Bn]? = _ from (heap_setCell_other _ _ _ _ (show Bn ≠ B from by have := HBn.out; omega)).trans HX7.out)
          have HR8 := Lib.hid (show (w7.setCell ⟨B, 8, none⟩ (.slice (some ⟨A, o, none⟩) r.length 0)).heap[w.heap.size + 1]? = some (.cells (plC zeroPl 0) 167 (0, 0)) from (heap_setCell_other _ _ _ _ (show w.heap.size + 1 ≠ B from by have := HJ.out.big; omega)).trans ((HA7.out.block _ (heap_lt HJ.out.res)).trans HJ.out.res))
          have HB8 := Lib.hid (show Below w.heap.size w (w7.setCell ⟨B, 8, none⟩ (.slice (some ⟨A, o, none⟩) r.length 0)) from (but_setCell w7 B 8 _).below (below_two HJ.out.below HA7.out) (by have := HJ.out.big; omega) (below_two HJ.out.below HA7.out).size)
          generalize w7.setCell ⟨B, 8, none⟩ (.slice (some ⟨A, o, none⟩) r.length 0) = w8 at HW8 HX8 HR8 HB8 ⊢
          have hr6 : r.length ≤ 1000000 := by have := HJ.out.few; omega
          have HTh := Lib.hid (wthru_any q.id w8 HW8.out hn hr6)
          have n0 : w8.cell? ⟨Bn, 0, none⟩ = some (.int .i64 q.id) := by rw [cell_of_row _ _ _ _ _ _ HX8.out]; rfl
          cases hth : thruW M follow s.slash r q.id with
          | false =>
            have hth' : thruW M follow (St.mk s.pl s.hops r s.slash).slash (St.mk s.pl s.hops r s.slash).left q.id = false := hth
            rw [hth'] at HTh
            rw [hth, if_neg (by simp)] at HG2
            clear hth hth'
            go_upto_region 17 with (go_at_call 138; refine HTh.out.mono ?_; rintro e' w9 ⟨rfl, hb⟩; have HW9 := Lib.hid (HW8.out.keep hb); have HX9 := Lib.hid ((hb.block _ (heap_lt HX8.out)).trans HX8.out); have HR9 := Lib.hid ((hb.block _ (heap_lt HR8.out)).trans HR8.out); have HB9 := Lib.hid (below_two HB8.out hb); clear hb)
            clear n0
            have n0 : w9.cell? ⟨Bn, 0, none⟩ = some (.int .i64 q.id) := by rw [cell_of_row _ _ _ _ _ _ HX9.out]; rfl
            have n1 : w9.cell? ⟨Bn, 1, none⟩ = some (.int .i64 q.dir) := by rw [cell_of_row _ _ _ _ _ _ HX9.out]; rfl
            have n2 : w9.cell? ⟨Bn, 2, none⟩ = some (.string q.name) := by rw [cell_of_row _ _ _ _ _ _ HX9.out]; rfl
            have n3 : w9.cell? ⟨Bn, 3, none⟩ = some (.int .i64 0) := by rw [cell_of_row _ _ _ _ _ _ HX9.out]; rfl
            have g3 := HW9.out.cell (j := 3) rfl
            have g4 := HW9.out.cell (j := 4) rfl
            have g5 := HW9.out.cell (j := 5) rfl
            have g6 := HW9.out.cell (j := 6) rfl
            have k3 := HW9.out.frozen 3
            have k4 := HW9.out.frozen 4
            have k5 := HW9.out.frozen 5
            have k6 := HW9.out.frozen 6
            have HJ9 := Lib.hid (show WJ M p u g follow path B (.slice (some ⟨A, o, none⟩) r.length 0) ⟨q, s.hops, r, s.slash⟩ w ((((w9.setCell ⟨B, 3, none⟩ (.int .i64 q.id)).setCell ⟨B, 4, none⟩ (.int .i64 q.dir)).setCell ⟨B, 5, none⟩ (.string q.name)).setCell ⟨B, 6, none⟩ (.int .i64 0)) from by
              have hw := (((HW9.out.set (s' := ⟨⟨q.id, s.pl.dir, s.pl.name⟩, s.hops, r, s.slash⟩) 3 (.int .i64 q.id) rfl rfl).set (s' := ⟨⟨q.id, q.dir, s.pl.name⟩, s.hops, r, s.slash⟩) 4 (.int .i64 q.dir) rfl rfl).set (s' := ⟨q, s.hops, r, s.slash⟩) 5 (.string q.name) rfl rfl).set (s' := ⟨q, s.hops, r, s.slash⟩) 6 (.int .i64 0) rfl rfl
              have bb := but_trans (but_trans (but_trans (but_setCell w9 B 3 (.int .i64 q.id)) (but_setCell _ B 4 (.int .i64 q.dir))) (but_setCell _ B 5 (.string q.name))) (but_setCell _ B 6 (.int .i64 0))
              refine ⟨hw, HG2.out, h0, h4, ?_, (bb.block _ (heap_lt HR9.out) (by have := HJ.out.big; omega)).trans HR9.out, bb.below HB9.out (by have := HJ.out.big; omega) HB9.out.size, HJ.out.big⟩
              have := HJ.out.few
              show (r.length : Int) ≤ 4100 + 5001 * s.hops
              omega)
            clear HW9 HX9 HR9 HB9 HTh HW8 HX8 HR8 HB8
            go_wp2_with fail
            go_step3
            exact ⟨rfl, ⟨B, _, _, ⟨_, _, _, _, _, _, _, _, _, _, _, _, _, _, _, _, _, _, _, _, _, _, _, _, _, _, _, _, _, _, _, _, _, _, _, _, _, _, _, _, _, _, _, _, _, _, _, _, _, _, _, _, _, _, _, _, _, _, _, rfl⟩, HJ9.out⟩, by rw [steps_eq HJ9.out.wk rfl, steps_eq HJ.out.wk rfl]; (try dsimp only); omega⟩
          | true =>
            have hth' : thruW M follow (St.mk s.pl s.hops r s.slash).slash (St.mk s.pl s.hops r s.slash).left q.id = true := hth
            rw [hth'] at HTh
            rw [hth, if_pos rfl, kOf_pass M u g follow s.pl s.hops r s.slash q.id h0 h4] at HG2
            clear hth hth'
            have HP9 := Lib.hid (fun W (hW : Wk M p u g follow B (.slice (some ⟨A, o, none⟩) r.length 0) ⟨s.pl, s.hops, r, s.slash⟩ W) => wpass_any q.id W hW hn (hT q.id) hr6 h0 h4)
            go_upto_region 14 with (go_at_call 138; refine HTh.out.mono ?_; rintro e' w9 ⟨rfl, hb⟩; have HW9 := Lib.hid (HW8.out.keep hb); have HX9 := Lib.hid ((hb.block _ (heap_lt HX8.out)).trans HX8.out); have HR9 := Lib.hid ((hb.block _ (heap_lt HR8.out)).trans HR8.out); have HB9 := Lib.hid (below_two HB8.out hb); clear hb)
            clear n0
            have n0 : w9.cell? ⟨Bn, 0, none⟩ = some (.int .i64 q.id) := by rw [cell_of_row _ _ _ _ _ _ HX9.out]; rfl
            go_wp2_with fail
            refine (HP9.out _ HW9.out).mono ?_
            rintro e' w10 ⟨lv', rfl, hbut, hwk⟩
            have HBu := Lib.hid hbut
            have HWk := Lib.hid hwk
            clear hbut hwk n0
            have HR10 := Lib.hid ((HBu.out.block _ (heap_lt HR9.out) (by have := HJ.out.big; omega)).trans HR9.out)
            have HB10 := Lib.hid (HBu.out.below HB9.out (by have := HJ.out.big; omega) HB9.out.size)
            by_cases hp : passE M ⟨s.pl, s.hops, r, s.slash⟩ q.id = 0
            · rw [if_pos hp] at HG2
              have HJ10 := Lib.hid (show WJ M p u g follow path B lv' (passS M ⟨s.pl, s.hops, r, s.slash⟩ q.id) w w10 from by
                have h40 : s.hops ≠ 40 := by
                  intro e
                  unfold passE at hp
                  rw [if_pos e] at hp
                  cases hp
                refine ⟨HWk.out hp, HG2.out, (show (0 : Int) ≤ s.hops + 1 by omega), (show s.hops + 1 ≤ 40 by omega), ?_, HR10.out, HB10.out, HJ.out.big⟩
                have h1 := HJ.out.few
                have h2 := namesL_len (linkT M q.id)
                have h3 := hT q.id
                show ((namesL (linkT M q.id) ++ r).length : Int) ≤ 4100 + 5001 * (s.hops + 1)
                rw [List.length_append]
                omega)
              rw [hp]
              have hfw := HJ10.out.few
              have hh : (passS M ⟨s.pl, s.hops, r, s.slash⟩ q.id).hops = s.hops + 1 := rfl
              have h41 := HJ10.out.h4
              clear HW9 HX9 HR9 HB9 HTh HW8 HX8 HR8 HB8 HWk HBu HP9 HR10 HB10 hp
              rw [hh] at hfw h41
              have HFW := Lib.hid hfw
              have HH := Lib.hid hh
              clear hfw hh
              go_wp2_with fail
              go_step3
              exact ⟨rfl, ⟨B, _, _, ⟨_, _, _, _, _, _, _, _, _, _, _, _, _, _, _, _, _, _, _, _, _, _, _, _, _, _, _, _, _, _, _, _, _, _, _, _, _, _, _, _, _, _, _, _, _, _, _, _, _, _, _, _, _, _, _, _, _, _, _, rfl⟩, HJ10.out⟩, by rw [steps_eq HJ10.out.wk rfl, steps_eq HJ.out.wk rfl]; (try dsimp only); rw [HH.out]; have := HFW.out; omega⟩
            · rw [if_neg hp] at HG2
              have hne : (passE M ⟨s.pl, s.hops, r, s.slash⟩ q.id != 0) = true := by simpa using hp
              have HR := Lib.hid (show RV = .tuple #[plV zeroPl 0, .int .i64 (passE M ⟨s.pl, s.hops, r, s.slash⟩ q.id)] from by rw [← HRV.out, HG2.out]; rfl)
              clear hp
              go_wp2_with (refine wpList_store_row rfl 167 (.tmp 8) (.tmp 66) rfl (w.heap.size + 1) (plC zeroPl 0) rfl rfl _ _ HR10.out (by rw [sizePlace]; rfl) rfl (plC_one _ _) ?_)
              exact walk_post HR.out HR10.out HB10.out _ rfl rfl
        · go_upto_region 13 with fail
          have HW8 := Lib.hid (show Wk M p u g follow B (.slice (some ⟨A, o + 1, none⟩) r.length (lc - 1)) ⟨s.pl, s.hops, r, s.slash⟩ (w7.setCell ⟨B, 8, none⟩ (.slice (some ⟨A, o + 1, none⟩) r.length (lc - 1))) from by
            refine HW7.out.but (but_setCell w7 B 8 _) (by rw [heap_setCell_same w7 B 8 _ _ _ HW7.out.box]; simp [boxOf]) (HW7.out.row (but_setCell w7 B 8 _) ?_)
            have hx := HW7.out.left
            rw [HXR.out] at hx
            have := left_tail hx
            unfold tailV at this
            simpa [HXR.out, hc1] using this)
          have HX8 := Lib.hid (show (w7.setCell ⟨B, 8, none⟩ (.slice (some ⟨A, o + 1, none⟩) r.length (lc - 1))).heap[Bn]? = _ from (heap_setCell_other _ _ _ _ (show Bn ≠ B from by have := HBn.out; omega)).trans HX7.out)
          have HR8 := Lib.hid (show (w7.setCell ⟨B, 8, none⟩ (.slice (some ⟨A, o + 1, none⟩) r.length (lc - 1))).heap[w.heap.size + 1]? = some (.cells (plC zeroPl 0) 167 (0, 0)) from (heap_setCell_other _ _ _ _ (show w.heap.size + 1 ≠ B from by have := HJ.out.big; omega)).trans ((HA7.out.block _ (heap_lt HJ.out.res)).trans HJ.out.res))
          have HB8 := Lib.hid (show Below w.heap.size w (w7.setCell ⟨B, 8, none⟩ (.slice (some ⟨A, o + 1, none⟩) r.length (lc - 1))) from (but_setCell w7 B 8 _).below (below_two HJ.out.below HA7.out) (by have := HJ.out.big; omega) (below_two HJ.out.below HA7.out).size)
          generalize w7.setCell ⟨B, 8, none⟩ (.slice (some ⟨A, o + 1, none⟩) r.length (lc - 1)) = w8 at HW8 HX8 HR8 HB8 ⊢
          have hr6 : r.length ≤ 1000000 := by have := HJ.out.few; omega
          have HTh := Lib.hid (wthru_any q.id w8 HW8.out hn hr6)
          have n0 : w8.cell? ⟨Bn, 0, none⟩ = some (.int .i64 q.id) := by rw [cell_of_row _ _ _ _ _ _ HX8.out]; rfl
          cases hth : thruW M follow s.slash r q.id with
          | false =>
            have hth' : thruW M follow (St.mk s.pl s.hops r s.slash).slash (St.mk s.pl s.hops r s.slash).left q.id = false := hth
            rw [hth'] at HTh
            rw [hth, if_neg (by simp)] at HG2
            clear hth hth'
            go_upto_region 17 with (go_at_call 138; refine HTh.out.mono ?_; rintro e' w9 ⟨rfl, hb⟩; have HW9 := Lib.hid (HW8.out.keep hb); have HX9 := Lib.hid ((hb.block _ (heap_lt HX8.out)).trans HX8.out); have HR9 := Lib.hid ((hb.block _ (heap_lt HR8.out)).trans HR8.out); have HB9 := Lib.hid (below_two HB8.out hb); clear hb)
            clear n0
            have n0 : w9.cell? ⟨Bn, 0, none⟩ = some (.int .i64 q.id) := by rw [cell_of_row _ _ _ _ _ _ HX9.out]; rfl
            have n1 : w9.cell? ⟨Bn, 1, none⟩ = some (.int .i64 q.dir) := by rw [cell_of_row _ _ _ _ _ _ HX9.out]; rfl
            have n2 : w9.cell? ⟨Bn, 2, none⟩ = some (.string q.name) := by rw [cell_of_row _ _ _ _ _ _ HX9.out]; rfl
            have n3 : w9.cell? ⟨Bn, 3, none⟩ = some (.int .i64 0) := by rw [cell_of_row _ _ _ _ _ _ HX9.out]; rfl
            have g3 := HW9.out.cell (j := 3) rfl
            have g4 := HW9.out.cell (j := 4) rfl
            have g5 := HW9.out.cell (j := 5) rfl
            have g6 := HW9.out.cell (j := 6) rfl
            have k3 := HW9.out.frozen 3
            have k4 := HW9.out.frozen 4
            have k5 := HW9.out.frozen 5
            have k6 := HW9.out.frozen 6
            have HJ9 := Lib.hid (show WJ M p u g follow path B (.slice (some ⟨A, o + 1, none⟩) r.length (lc - 1)) ⟨q, s.hops, r, s.slash⟩ w ((((w9.setCell ⟨B, 3, none⟩ (.int .i64 q.id)).setCell ⟨B, 4, none⟩ (.int .i64 q.dir)).setCell ⟨B, 5, none⟩ (.string q.name)).setCell ⟨B, 6, none⟩ (.int .i64 0)) from by
              have hw := (((HW9.out.set (s' := ⟨⟨q.id, s.pl.dir, s.pl.name⟩, s.hops, r, s.slash⟩) 3 (.int .i64 q.id) rfl rfl).set (s' := ⟨⟨q.id, q.dir, s.pl.name⟩, s.hops, r, s.slash⟩) 4 (.int .i64 q.dir) rfl rfl).set (s' := ⟨q, s.hops, r, s.slash⟩) 5 (.string q.name) rfl rfl).set (s' := ⟨q, s.hops, r, s.slash⟩) 6 (.int .i64 0) rfl rfl
              have bb := but_trans (but_trans (but_trans (but_setCell w9 B 3 (.int .i64 q.id)) (but_setCell _ B 4 (.int .i64 q.dir))) (but_setCell _ B 5 (.string q.name))) (but_setCell _ B 6 (.int .i64 0))
              refine ⟨hw, HG2.out, h0, h4, ?_, (bb.block _ (heap_lt HR9.out) (by have := HJ.out.big; omega)).trans HR9.out, bb.below HB9.out (by have := HJ.out.big; omega) HB9.out.size, HJ.out.big⟩
              have := HJ.out.few
              show (r.length : Int) ≤ 4100 + 5001 * s.hops
              omega)
            clear HW9 HX9 HR9 HB9 HTh HW8 HX8 HR8 HB8
            go_wp2_with fail
            go_step3
            exact ⟨rfl, ⟨B, _, _, ⟨_, _, _, _, _, _, _, _, _, _, _, _, _, _, _, _, _, _, _, _, _, _, _, _, _, _, _, _, _, _, _, _, _, _, _, _, _, _, _, _, _, _, _, _, _, _, _, _, _, _, _, _, _, _, _, _, _, _, _, rfl⟩, HJ9.out⟩, by rw [steps_eq HJ9.out.wk rfl, steps_eq HJ.out.wk rfl]; (try dsimp only); omega⟩
          | true =>
            have hth' : thruW M follow (St.mk s.pl s.hops r s.slash).slash (St.mk s.pl s.hops r s.slash).left q.id = true := hth
            rw [hth'] at HTh
            rw [hth, if_pos rfl, kOf_pass M u g follow s.pl s.hops r s.slash q.id h0 h4] at HG2
            clear hth hth'
            have HP9 := Lib.hid (fun W (hW : Wk M p u g follow B (.slice (some ⟨A, o + 1, none⟩) r.length (lc - 1)) ⟨s.pl, s.hops, r, s.slash⟩ W) => wpass_any q.id W hW hn (hT q.id) hr6 h0 h4)
            go_upto_region 14 with (go_at_call 138; refine HTh.out.mono ?_; rintro e' w9 ⟨rfl, hb⟩; have HW9 := Lib.hid (HW8.out.keep hb); have HX9 := Lib.hid ((hb.block _ (heap_lt HX8.out)).trans HX8.out); have HR9 := Lib.hid ((hb.block _ (heap_lt HR8.out)).trans HR8.out); have HB9 := Lib.hid (below_two HB8.out hb); clear hb)
            clear n0
            have n0 : w9.cell? ⟨Bn, 0, none⟩ = some (.int .i64 q.id) := by rw [cell_of_row _ _ _ _ _ _ HX9.out]; rfl
            go_wp2_with fail
            refine (HP9.out _ HW9.out).mono ?_
            rintro e' w10 ⟨lv', rfl, hbut, hwk⟩
            have HBu := Lib.hid hbut
            have HWk := Lib.hid hwk
            clear hbut hwk n0
            have HR10 := Lib.hid ((HBu.out.block _ (heap_lt HR9.out) (by have := HJ.out.big; omega)).trans HR9.out)
            have HB10 := Lib.hid (HBu.out.below HB9.out (by have := HJ.out.big; omega) HB9.out.size)
            by_cases hp : passE M ⟨s.pl, s.hops, r, s.slash⟩ q.id = 0
            · rw [if_pos hp] at HG2
              have HJ10 := Lib.hid (show WJ M p u g follow path B lv' (passS M ⟨s.pl, s.hops, r, s.slash⟩ q.id) w w10 from by
                have h40 : s.hops ≠ 40 := by
                  intro e
                  unfold passE at hp
                  rw [if_pos e] at hp
                  cases hp
                refine ⟨HWk.out hp, HG2.out, (show (0 : Int) ≤ s.hops + 1 by omega), (show s.hops + 1 ≤ 40 by omega), ?_, HR10.out, HB10.out, HJ.out.big⟩
                have h1 := HJ.out.few
                have h2 := namesL_len (linkT M q.id)
                have h3 := hT q.id
                show ((namesL (linkT M q.id) ++ r).length : Int) ≤ 4100 + 5001 * (s.hops + 1)
                rw [List.length_append]
                omega)
              rw [hp]
              have hfw := HJ10.out.few
              have hh : (passS M ⟨s.pl, s.hops, r, s.slash⟩ q.id).hops = s.hops + 1 := rfl
              have h41 := HJ10.out.h4
              clear HW9 HX9 HR9 HB9 HTh HW8 HX8 HR8 HB8 HWk HBu HP9 HR10 HB10 hp
              rw [hh] at hfw h41
              have HFW := Lib.hid hfw
              have HH := Lib.hid hh
              clear hfw hh
              go_wp2_with fail
              go_step3
              exact ⟨rfl, ⟨B, _, _, ⟨_, _, _, _, _, _, _, _, _, _, _, _, _, _, _, _, _, _, _, _, _, _, _, _, _, _, _, _, _, _, _, _, _, _, _, _, _, _, _, _, _, _, _, _, _, _, _, _, _, _, _, _, _, _, _, _, _, _, _, rfl⟩, HJ10.out⟩, by rw [steps_eq HJ10.out.wk rfl, steps_eq HJ.out.wk rfl]; (try dsimp only); rw [HH.out]; have := HFW.out; omega⟩
            · rw [if_neg hp] at HG2
              have hne : (passE M ⟨s.pl, s.hops, r, s.slash⟩ q.id != 0) = true := by simpa using hp
              have HR := Lib.hid (show RV = .tuple #[plV zeroPl 0, .int .i64 (passE M ⟨s.pl, s.hops, r, s.slash⟩ q.id)] from by rw [← HRV.out, HG2.out]; rfl)
              clear hp
              go_wp2_with (refine wpList_store_row rfl 167 (.tmp 8) (.tmp 66) rfl (w.heap.size + 1) (plC zeroPl 0) rfl rfl _ _ HR10.out (by rw [sizePlace]; rfl) rfl (plC_one _ _) ?_)
              exact walk_post HR.out HR10.out HB10.out _ rfl rfl
end Go.Proofs.YtknfhphhcnbndaaGreatDoor.V
