/-
  What Made returns: both file systems, behind the same changes. Conditions: at most 400 changes, texts that Few lets through.
-/
import Derived.Test.YtigkdehaepenhaaGreatDoorVTwin
set_option linter.unusedVariables false
set_option linter.unusedSimpArgs false
namespace Go.Proofs.YtigkdehaepenhaaGreatDoor.V
open Go.RowKit Go.BigFrame

def MadeRel (cs : List Chg) (w : World) (p B5 : Nat) (v : Value) (wr : World) : Prop := ∃ (k : Nat) (L : List It) (r : Rv), k ≤ cs.length ∧ v = .int .i64 (k : Int) ∧ L.length ≤ k ∧ Hid (Twin w p (runM (cs.take k) newM) L r wr) ∧
  wr.heap[w.heap.size]? = some (.cells nilsR 32 (0, 0)) ∧ wr.heap[B5]? = some (.cells #[r.n, r.l, r.c, r.d, r.a, r.f] 32 (0, 0))

def MadeMid (w5 : World) (M : List Nd) (c : Chg) (L : List It) (B7 : Nat) (W : World) : Prop := ∃ (r : Rv) (L' : List It), W.heap[B7]? = some (.cells #[r.n, r.l, r.c, r.d, r.a, r.f] 32 (0, 0)) ∧ Rs (doM M c) L' r W ∧ Rel (doM M c) L' ∧ L'.length ≤ L.length + 1 ∧ Below w5.heap.size w5 W ∧ w5.heap.size ≤ B7
theorem rs_one {M : List Nd} {L : List It} {v : Rv} {w : World} (h : Rs M L v w) : (#[v.n, v.l, v.c, v.d, v.a, v.f] : Array Value).all (·.oneCell') = true := rv_one (rown_rs h)
theorem But.from {b B : Nat} {w0 w w' : World} (h : But b w w') (h0 : Below B w0 w) (hB : B ≤ b) (hw : B ≤ w.heap.size) : Below B w0 w' := h.below h0 hB hw

theorem runM_pos : ∀ (cs : List Chg) (M : List Nd), 0 < M.length → 0 < (runM cs M).length
  | [], M, h => h
  | c :: r, M, h => runM_pos r (doM M c) (len_do h)
theorem Has.but {w0 w w' : World} {p b : Nat} {M : List Nd} (h : Has w0 p M w) (g : But b w w') {cs : Array Value} (hb : w.heap[b]? = some (.cells cs 32 (0, 0))) (hB : w0.heap.size ≤ b) : Has w0 p M w' := by
  obtain ⟨h, h1, h2, H, hb1, hf⟩ := h
  refine ⟨h, h1, h2, H.at (fun k hk => g.block k (H.lt hk) ?_), g.below hb1 hB hb1.size, hf⟩
  rintro rfl
  obtain ⟨cur, T, hc, hT⟩ := foot_type H hk
  rw [hb] at hc
  simp only [Option.some.injEq, Obj.cells.injEq, and_true] at hc
  obtain ⟨_, rfl⟩ := hc
  revert hT
  decide
theorem results_made {tmps : Array Value} {w : World} {g : Nat} {p' : Value} {cs : Array Value} {T : TypeId} {fr : Nat × Nat} (h2 : tmps.getD 2 undef = p') (h3 : tmps.getD 3 undef = .pointer (some ⟨g, 0, none⟩)) (hg : w.heap[g]? = some (.cells cs T fr)) (hs : cs.size = 6) :
    (results Tryz.f8 tmps).run Tryz.prog w = .ok (.tuple #[p', .agg cs]) w := by
  have hp' : tmps[3]?.getD undef = .pointer (some ⟨g, 0, none⟩) := by simpa using h3
  have hp2 : tmps[2]?.getD undef = p' := by simpa using h2
  have hl := run_loadVar_row (P := Tryz.prog) w g T 32 cs fr _ hg Tryz.underlying32 rfl (by rw [sizeRef, hs])
  simp [results, hp', hp2, asAddr, hl]

theorem Has.from {w0 w1 w : World} {p : Nat} {M : List Nd} (h : Has w1 p M w) (hb : Below w0.heap.size w0 w1) : Has w0 p M w := by
  obtain ⟨h, h1, h2, H, hb1, hf⟩ := h
  exact ⟨h, h1, h2, H, below_two hb hb1, fun k hk => Nat.le_trans hb.size (hf k hk)⟩

set_option maxRecDepth 100000 in
set_option maxHeartbeats 8000000 in
theorem made_any (cs : List Chg) (a : Option Addr) (cap : Nat) (w : World) (H : IsChgs w a cs) (hl : cs.length ≤ 400) (hf : FewL cs) (hn : ∀ c ∈ cs, -9223372036854775808 ≤ c.n ∧ c.n ≤ 9223372036854775807) :
    Calls Tryz.prog 8 #[.slice a cs.length cap] w fun e w' => ∃ p r L, e = .returned (.tuple #[.pointer (some ⟨p, 0, none⟩), rvV r]) ∧ Twin w p (runM cs newM) L r w' ∧ L.length ≤ cs.length := by
  have HH := Lib.hid H
  have HF := Lib.hid hf
  have HN := Lib.hid hn
  clear H hf hn
  have q0 := heap_alloc_new w (.cells nilsR 32)
  have B0 := (Below.refl w.heap.size w).alloc (Nat.le_refl _) (.cells nilsR 32)
  have HQ0 := Lib.hid q0
  have HB0 := Lib.hid B0
  unfold nilsR at q0 B0
  go_enter Tryz.func8, Tryz.ntmps8
  go_upto_region 2 with (first
    | (go_at_call 17; refine (new_any _).mono ?_; rintro e w2 ⟨p, rfl, H2⟩; have HP2 := Lib.hid (H2.from HB0.out); have HQ2 := Lib.hid (box_keep2 HQ0.out H2.below); clear H2 q0 B0)
    | (go_at_call 18; refine (rnew_any _).mono ?_; rintro e w3 ⟨v3, rfl, ho3, hb3⟩; have HT3 := Lib.hid (show Twin w p newM [] v3 w3 from ⟨HP2.out.keep hb3, rs_new ho3, rel_new⟩); have HQ3 := Lib.hid (box_keep2 HQ2.out hb3); have HN3 := Lib.hid (rv_one ho3); clear ho3 hb3)
    | (refine wpList_store_row rfl 32 (.tmp 5) (.tmp 11) rfl w3.heap.size #[v3.n, v3.l, v3.c, v3.d, v3.a, v3.f] rfl rfl 32 nilsR (heap_alloc_new _ _) sizeRef rfl HN3.out ?_; rw [World.setRow_alloc_new]))
  have HB4 := Lib.hid (show Below w3.heap.size w3 (w3.alloc (.cells #[v3.n, v3.l, v3.c, v3.d, v3.a, v3.f] 32)) from (Below.refl _ _).alloc (Nat.le_refl _) _)
  have HQ4 := Lib.hid (heap_alloc_new w3 (.cells #[v3.n, v3.l, v3.c, v3.d, v3.a, v3.f] 32))
  have HBW := Lib.hid (show Below w.heap.size w (w3.alloc (.cells #[v3.n, v3.l, v3.c, v3.d, v3.a, v3.f] 32)) from (HT3.out.keep HB4.out).fs.below)
  generalize w3.alloc (.cells #[v3.n, v3.l, v3.c, v3.d, v3.a, v3.f] 32) = w4 at HB4 HQ4 HBW ⊢
  have HR0 := Lib.hid (show MadeRel cs w p w3.heap.size (.int .i64 0) w4 from ⟨0, [], v3, Nat.zero_le _, rfl, Nat.zero_le _, Lib.hid (HT3.out.keep HB4.out), box_keep2 HQ3.out HB4.out, HQ4.out⟩)
  have HLT := Lib.hid (heap_lt HQ3.out)
  generalize w3.heap.size = B5 at HR0 HQ4 HLT ⊢
  go_wp2_with fail
  go_loopw [6] (MadeRel cs w p B5) (fun v _ => cs.length - (intOf v).toNat)
  case atStart => exact HR0.out
  case round =>
    obtain ⟨k, L, r, hk, rfl, hL, HT, hq, hb⟩ := hrel
    have HQ := Lib.hid hq
    have HBX := Lib.hid hb
    clear hq hb
    by_cases hlt : k < cs.length
    · have d1 : decide ((k : Int) < (cs.length : Int)) = true := decide_eq_true (by omega)
      obtain ⟨c, hc⟩ : ∃ c, cs[k]? = some c := ⟨_, List.getElem?_eq_getElem hlt⟩
      obtain ⟨g, o, rfl, hr⟩ := (HH.out.keep HT.out.fs.below).at_ hc
      have HR := Lib.hid (show ∀ W, Below w.heap.size w W → W.rangeAt g (o + k * 8) (chgL c) from fun W hW => by
        obtain ⟨g', o', e, h⟩ := (HH.out.keep hW).at_ hc
        cases e
        exact h)
      have HRW := Lib.hid hr
      have HC := Lib.hid hc
      have HK := Lib.hid (runM_take hc newM)
      obtain ⟨n1, n2⟩ := HN.out c (List.mem_of_getElem? hc)
      obtain ⟨s1, s2⟩ := HF.out k c (by omega) hc
      have HSM := Lib.hid (show Small (runM (cs.take k) newM) k from by
        have := runM_small (cs.take k) newM 0 new_small
        rwa [List.length_take, Nat.min_eq_left hk, Nat.zero_add] at this)
      have HDV := Lib.hid (runM_dev (cs.take k) newM devInv_new)
      have HM0 := Lib.hid (runM_pos (cs.take k) newM (by decide))
      clear hr hc
      generalize runM (cs.take k) newM = M at HT HK HSM HDV HM0
      have HCV := Lib.hid (show chgV c = .agg (chgL c).toArray from rfl)
      have HD := Lib.hid (has_do_keeps (c := c) HT.out.fs HSM.out (by omega) HM0.out ⟨n1, n2⟩)
      go_upto_region 6 with (first
        | (refine wpList_load_mid rfl 54 (.tmp 21) rfl g (o + k * 8) rfl (chgL c) _ HRW.out Tryz.underlying54 rfl sizeChg ?_)
        | (go_at_call 19; rw [← HCV.out]; refine HD.out.mono ?_; rintro e w5 ⟨rfl, H5, K5, z5⟩; have HH5 := Lib.hid H5; have HK5 := Lib.hid K5; clear H5 K5))
      have HW5 := Lib.hid HH5.out.below
      have HB5 := Lib.hid (HK5.out B5 _ _ HBX.out (by decide) (by decide) (by decide))
      have HQ5 := Lib.hid (HK5.out _ _ _ HQ.out (by decide) (by decide) (by decide))
      have HS5 := Lib.hid (HK5.out.rs HT.out.rs)
      have HFc := Lib.hid (show ∀ W, Below w5.heap.size w5 W → W.cell? ⟨B5, 0, none⟩ = some r.n ∧ W.cell? ⟨B5, 1, none⟩ = some r.l ∧ W.cell? ⟨B5, 2, none⟩ = some r.c ∧ W.cell? ⟨B5, 3, none⟩ = some r.d ∧ W.cell? ⟨B5, 4, none⟩ = some r.a ∧ W.cell? ⟨B5, 5, none⟩ = some r.f from fun W hW => by
        have q := box_keep2 HB5.out hW
        refine ⟨?_, ?_, ?_, ?_, ?_, ?_⟩ <;> (rw [cell_of_row _ _ _ _ _ _ q]; rfl))
      have HCc := Lib.hid (show ∀ W, Below w5.heap.size w5 W → W.cell? ⟨g, o + k * 8, none⟩ = some (.int .i64 c.kind) ∧ W.cell? ⟨g, o + k * 8 + 1, none⟩ = some (.int .i64 c.at_) ∧ W.cell? ⟨g, o + k * 8 + 2, none⟩ = some (.int .i64 c.to) ∧ W.cell? ⟨g, o + k * 8 + 3, none⟩ = some (.string c.name) ∧ W.cell? ⟨g, o + k * 8 + 4, none⟩ = some (.string c.text) ∧ W.cell? ⟨g, o + k * 8 + 5, none⟩ = some (.int .i64 c.a) ∧ W.cell? ⟨g, o + k * 8 + 6, none⟩ = some (.int .i64 c.b) ∧ W.cell? ⟨g, o + k * 8 + 7, none⟩ = some (.int .i64 c.n) from fun W hW => by
        have q := HR.out W (below_two HW5.out hW)
        exact ⟨q 0 _ rfl, q 1 _ rfl, q 2 _ rfl, q 3 _ rfl, q 4 _ rfl, q 5 _ rfl, q 6 _ rfl, q 7 _ rfl⟩)
      have HRD := Lib.hid (show ∀ W, Below w5.heap.size w5 W → Calls Tryz.prog 20 #[.agg #[r.n, r.l, r.c, r.d, r.a, r.f], chgV c] W (RDoP M L c W) from fun W hW => rdo_any M L r c W (HS5.out.keep hW) HT.out.rel HDV.out (by have := HSM.out.1; omega) (by omega) HM0.out (by omega) (by omega) n2)
      go_cut [7, 8, 9] from 24 to 34 (fun a7 a8 a9 wx => ∃ B7, a7 = .pointer (some ⟨B7, 0, none⟩) ∧ MadeMid w5 M c L B7 wx)
      case first =>
        refine Till.region (z := 13) (S := fun w' => Below w5.heap.size w5 w') (by kernel_rfl) ((Below.refl _ _).drew) (fun hHeld => ?_)
        refine Till.take (i := 0) (oi := { dst := some 25, op := Op.load 32 (Operand.tmp 5), type := 32, pos := "law.go:25", after := #[], guard := none }) (v := .agg #[r.n, r.l, r.c, r.d, r.a, r.f]) rfl (by kernel_rfl) (by kernel_rfl) (by kernel_rfl) (by kernel_rfl) (fun _ _ _ h => h) (Or.inl ⟨by rfl, fun w0 hS0 => ?_⟩) (by assumption) ?_
        · obtain ⟨c0, c1, c2, c3, c4, c5⟩ := HFc.out _ hS0; go_simp
        try simp only [Act.put, List.setIfInBounds_toArray, List.set_cons_zero, List.set_cons_succ]
        refine Till.take (i := 1) (oi := { dst := some 26, op := Op.move (Operand.tmp 0), type := 22, pos := "law.go:25", after := #[], guard := none }) (v := .slice (some ⟨g, o, none⟩) cs.length cap) rfl (by kernel_rfl) (by kernel_rfl) (by kernel_rfl) (by kernel_rfl) (fun _ _ _ h => h) (Or.inl ⟨by rfl, fun w0 hS0 => ?_⟩) (by assumption) ?_
        · go_simp
        try simp only [Act.put, List.setIfInBounds_toArray, List.set_cons_zero, List.set_cons_succ]
        refine Till.take (i := 2) (oi := { dst := some 27, op := Op.move (Operand.tmp 6), type := 3, pos := "law.go:25", after := #[], guard := none }) (v := .int .i64 (k : Int)) rfl (by kernel_rfl) (by kernel_rfl) (by kernel_rfl) (by kernel_rfl) (fun _ _ _ h => h) (Or.inl ⟨by rfl, fun w0 hS0 => ?_⟩) (by assumption) ?_
        · go_simp
        try simp only [Act.put, List.setIfInBounds_toArray, List.set_cons_zero, List.set_cons_succ]
        refine Till.take (i := 3) (oi := { dst := some 28, op := Op.indexAddr 22 (Operand.tmp 26) (Operand.tmp 27), type := 0, pos := "law.go:25", after := #[{ on := 1, ground := Ground.data }, { on := 2, ground := Ground.data }], guard := none }) (v := .pointer (some ⟨g, o + k * 8, none⟩)) rfl (by kernel_rfl) (by kernel_rfl) (by kernel_rfl) (by kernel_rfl) (fun _ _ _ h => h) (Or.inl ⟨by rfl, fun w0 hS0 => ?_⟩) (by assumption) ?_
        · go_simp
        try simp only [Act.put, List.setIfInBounds_toArray, List.set_cons_zero, List.set_cons_succ]
        refine Till.take (i := 4) (oi := { dst := some 29, op := Op.load 54 (Operand.tmp 28), type := 54, pos := "law.go:25", after := #[{ on := 3, ground := Ground.data }], guard := none }) (v := chgV c) rfl (by kernel_rfl) (by kernel_rfl) (by kernel_rfl) (by kernel_rfl) (fun _ _ _ h => h) (Or.inl ⟨by rfl, fun w0 hS0 => ?_⟩) (by assumption) ?_
        · obtain ⟨c0, c1, c2, c3, c4, c5, c6, c7⟩ := HCc.out _ hS0; unfold chgV; go_simp
        try simp only [Act.put, List.setIfInBounds_toArray, List.set_cons_zero, List.set_cons_succ]
        refine Till.two (i := 5) (j := 10) (o := { dst := some 30, op := Op.call { callee := Callee.value (Operand.func 20), args := #[Operand.tmp 25, Operand.tmp 29], argTypes := #[32, 54] }, type := 58, pos := "law.go:25", after := #[{ on := 0, ground := Ground.data }, { on := 4, ground := Ground.data }], guard := none }) (o' := { dst := some 7, op := Op.alloc 32, type := 0, pos := "law.go:25", after := #[], guard := none }) (by kernel_rfl) rfl rfl (fun K hK => ?_) (fun K hK => ?_)
        · go_simp
          refine (HRD.out _ (hHeld)).mono ?_
          rintro e w6 ⟨r', L', rfl, R6, E6, l6, b6⟩
          have HR6 := Lib.hid R6
          have HN6 := Lib.hid (rs_one R6)
          have HE6 := Lib.hid E6
          have HB6 := Lib.hid (below_two (hHeld) b6)
          clear R6 E6 b6
          go_wp2_with fail
          refine hK.out _ _ (fun _ => HB6.out) ?_
          clear hK K
          have hHeld6 := HB6.out
          try simp only [Act.put, List.setIfInBounds_toArray, List.set_cons_zero, List.set_cons_succ]
          refine Till.take (i := 6) (oi := { dst := some 24, op := Op.move (Operand.tmp 30), type := 58, pos := "law.go:25", after := #[{ on := 5, ground := Ground.data }], guard := none }) (v := .tuple #[rvV r', .int .i64 (doR M c), .int .i64 (wrongM M c)]) rfl (by kernel_rfl) (by kernel_rfl) (by kernel_rfl) (by kernel_rfl) (fun _ _ _ h => h) (Or.inl ⟨by rfl, fun w0 hS0 => ?_⟩) (by assumption) ?_
          · go_simp
          try simp only [Act.put, List.setIfInBounds_toArray, List.set_cons_zero, List.set_cons_succ]
          refine Till.take (i := 7) (oi := { dst := some 31, op := Op.extract (Operand.tmp 24) 0, type := 32, pos := "law.go:25", after := #[{ on := 6, ground := Ground.data }], guard := none }) (v := rvV r') rfl (by kernel_rfl) (by kernel_rfl) (by kernel_rfl) (by kernel_rfl) (fun _ _ _ h => h) (Or.inl ⟨by rfl, fun w0 hS0 => ?_⟩) (by assumption) ?_
          · go_simp
          try simp only [Act.put, List.setIfInBounds_toArray, List.set_cons_zero, List.set_cons_succ]
          refine Till.take (i := 8) (oi := { dst := some 32, op := Op.extract (Operand.tmp 24) 1, type := 3, pos := "law.go:25", after := #[{ on := 6, ground := Ground.data }, { on := 11, ground := Ground.gcOnly Departure.lateStores }], guard := none }) (v := .int .i64 (doR M c)) rfl (by kernel_rfl) (by kernel_rfl) (by kernel_rfl) (by kernel_rfl) (fun _ _ _ h => h) (Or.inl ⟨by rfl, fun w0 hS0 => ?_⟩) (by assumption) ?_
          · go_simp
          try simp only [Act.put, List.setIfInBounds_toArray, List.set_cons_zero, List.set_cons_succ]
          refine Till.take (i := 9) (oi := { dst := some 33, op := Op.extract (Operand.tmp 24) 2, type := 35, pos := "law.go:25", after := #[{ on := 6, ground := Ground.data }, { on := 12, ground := Ground.gcOnly Departure.lateStores }], guard := none }) (v := .int .i64 (wrongM M c)) rfl (by kernel_rfl) (by kernel_rfl) (by kernel_rfl) (by kernel_rfl) (fun _ _ _ h => h) (Or.inl ⟨by rfl, fun w0 hS0 => ?_⟩) (by assumption) ?_
          · go_simp
          try simp only [Act.put, List.setIfInBounds_toArray, List.set_cons_zero, List.set_cons_succ]
          refine Till.next (i := 10) (o := { dst := some 7, op := Op.alloc 32, type := 0, pos := "law.go:25", after := #[], guard := none }) (by kernel_rfl) rfl (fun K hK => ?_)
          go_simp
          refine hK.out _ _ (fun _ => HB6.out.alloc HB6.out.size _) ?_
          clear hK K
          have hHeld7 := HB6.out.alloc HB6.out.size (.cells nilsR 32)
          have HBt := Lib.hid (but_setRow (heap_alloc_new w6 (.cells nilsR 32)) #[r'.n, r'.l, r'.c, r'.d, r'.a, r'.f])
          try simp only [Act.put, List.setIfInBounds_toArray, List.set_cons_zero, List.set_cons_succ]
          refine Till.next (i := 11) (o := { dst := none, op := Op.store 32 (Operand.tmp 7) (Operand.tmp 31), type := 0, pos := "law.go:25", after := #[{ on := 10, ground := Ground.data }, { on := 7, ground := Ground.data }, { on := 5, ground := Ground.chain }, { on := 0, ground := Ground.phase }, { on := 1, ground := Ground.phase }, { on := 2, ground := Ground.phase }, { on := 3, ground := Ground.phase }, { on := 4, ground := Ground.phase }, { on := 5, ground := Ground.phase }, { on := 6, ground := Ground.phase }, { on := 7, ground := Ground.phase }, { on := 8, ground := Ground.textOnly Departure.lateStores }, { on := 9, ground := Ground.textOnly Departure.lateStores }, { on := 10, ground := Ground.phase }], guard := none }) (by kernel_rfl) rfl (fun K hK => ?_)
          refine step_store_row rfl 32 (.tmp 7) (.tmp 31) rfl (w6.heap.size) #[r'.n, r'.l, r'.c, r'.d, r'.a, r'.f] rfl rfl 32 nilsR (heap_alloc_new _ _) sizeRef rfl HN6.out ?_
          refine hK.out _ _ (fun _ => HBt.out.from hHeld7 HB6.out.size hHeld7.size) ?_
          clear hK K
          try simp only [Act.put, List.setIfInBounds_toArray, List.set_cons_zero, List.set_cons_succ]
          refine Till.next (i := 12) (o := { dst := some 8, op := Op.assign (Operand.tmp 32), type := 3, pos := "law.go:25", after := #[{ on := 8, ground := Ground.data }, { on := 11, ground := Ground.chain }, { on := 0, ground := Ground.phase }, { on := 1, ground := Ground.phase }, { on := 2, ground := Ground.phase }, { on := 3, ground := Ground.phase }, { on := 4, ground := Ground.phase }, { on := 5, ground := Ground.phase }, { on := 6, ground := Ground.phase }, { on := 7, ground := Ground.phase }, { on := 8, ground := Ground.phase }, { on := 9, ground := Ground.textOnly Departure.lateStores }, { on := 10, ground := Ground.phase }, { on := 11, ground := Ground.phase }], guard := none }) (by kernel_rfl) rfl (fun K hK => ?_)
          go_simp
          refine hK.out _ _ (fun _ => HBt.out.from hHeld7 HB6.out.size hHeld7.size) ?_
          clear hK K
          try simp only [Act.put, List.setIfInBounds_toArray, List.set_cons_zero, List.set_cons_succ]
          refine Till.next (i := 13) (o := { dst := some 9, op := Op.assign (Operand.tmp 33), type := 35, pos := "law.go:25", after := #[{ on := 9, ground := Ground.data }, { on := 12, ground := Ground.chain }, { on := 0, ground := Ground.phase }, { on := 1, ground := Ground.phase }, { on := 2, ground := Ground.phase }, { on := 3, ground := Ground.phase }, { on := 4, ground := Ground.phase }, { on := 5, ground := Ground.phase }, { on := 6, ground := Ground.phase }, { on := 7, ground := Ground.phase }, { on := 8, ground := Ground.phase }, { on := 9, ground := Ground.phase }, { on := 10, ground := Ground.phase }, { on := 11, ground := Ground.phase }, { on := 12, ground := Ground.phase }], guard := none }) (by kernel_rfl) rfl (fun K hK => ?_)
          go_simp
          refine hK.out _ _ (fun q => absurd rfl q) ?_
          clear hK K
          try simp only [Act.put, List.setIfInBounds_toArray, List.set_cons_zero, List.set_cons_succ]
          refine Till.done (by kernel_rfl) ?_
          go_wp2_with fail
          go_meet
          exact ⟨_, rfl, r', L', setRow_heap _ _ _ _ _ _ (heap_alloc_new _ _), HBt.out.rs (heap_alloc_new _ _) (HR6.out.keep ((Below.refl _ _).alloc (Nat.le_refl _) _)), HE6.out, l6, HBt.out.from hHeld7 HB6.out.size hHeld7.size, HB6.out.size⟩
        · go_simp
          refine hK.out _ _ (fun _ => hHeld.alloc hHeld.size _) ?_
          clear hK K
          have hHeld7 := hHeld.alloc hHeld.size (.cells nilsR 32)
          have HQ7 := Lib.hid (heap_alloc_new w5.drew (.cells nilsR 32))
          try simp only [Act.put, List.setIfInBounds_toArray, List.set_cons_zero, List.set_cons_succ]
          refine Till.next (i := 5) (o := { dst := some 30, op := Op.call { callee := Callee.value (Operand.func 20), args := #[Operand.tmp 25, Operand.tmp 29], argTypes := #[32, 54] }, type := 58, pos := "law.go:25", after := #[{ on := 0, ground := Ground.data }, { on := 4, ground := Ground.data }], guard := none }) (by kernel_rfl) rfl (fun K hK => ?_)
          go_simp
          refine (HRD.out _ (hHeld7)).mono ?_
          rintro e w6 ⟨r', L', rfl, R6, E6, l6, b6⟩
          have HR6 := Lib.hid R6
          have HN6 := Lib.hid (rs_one R6)
          have HE6 := Lib.hid E6
          have HB6 := Lib.hid (below_two (hHeld7) b6)
          have HQ8 := Lib.hid (box_keep2 HQ7.out b6)
          have HBt := Lib.hid (but_setRow HQ8.out #[r'.n, r'.l, r'.c, r'.d, r'.a, r'.f])
          clear R6 E6 b6
          go_wp2_with fail
          refine hK.out _ _ (fun _ => HB6.out) ?_
          clear hK K
          have hHeld6 := HB6.out
          try simp only [Act.put, List.setIfInBounds_toArray, List.set_cons_zero, List.set_cons_succ]
          refine Till.take (i := 6) (oi := { dst := some 24, op := Op.move (Operand.tmp 30), type := 58, pos := "law.go:25", after := #[{ on := 5, ground := Ground.data }], guard := none }) (v := .tuple #[rvV r', .int .i64 (doR M c), .int .i64 (wrongM M c)]) rfl (by kernel_rfl) (by kernel_rfl) (by kernel_rfl) (by kernel_rfl) (fun _ _ _ h => h) (Or.inl ⟨by rfl, fun w0 hS0 => ?_⟩) (by assumption) ?_
          · go_simp
          try simp only [Act.put, List.setIfInBounds_toArray, List.set_cons_zero, List.set_cons_succ]
          refine Till.take (i := 7) (oi := { dst := some 31, op := Op.extract (Operand.tmp 24) 0, type := 32, pos := "law.go:25", after := #[{ on := 6, ground := Ground.data }], guard := none }) (v := rvV r') rfl (by kernel_rfl) (by kernel_rfl) (by kernel_rfl) (by kernel_rfl) (fun _ _ _ h => h) (Or.inl ⟨by rfl, fun w0 hS0 => ?_⟩) (by assumption) ?_
          · go_simp
          try simp only [Act.put, List.setIfInBounds_toArray, List.set_cons_zero, List.set_cons_succ]
          refine Till.take (i := 8) (oi := { dst := some 32, op := Op.extract (Operand.tmp 24) 1, type := 3, pos := "law.go:25", after := #[{ on := 6, ground := Ground.data }, { on := 11, ground := Ground.gcOnly Departure.lateStores }], guard := none }) (v := .int .i64 (doR M c)) rfl (by kernel_rfl) (by kernel_rfl) (by kernel_rfl) (by kernel_rfl) (fun _ _ _ h => h) (Or.inl ⟨by rfl, fun w0 hS0 => ?_⟩) (by assumption) ?_
          · go_simp
          try simp only [Act.put, List.setIfInBounds_toArray, List.set_cons_zero, List.set_cons_succ]
          refine Till.take (i := 9) (oi := { dst := some 33, op := Op.extract (Operand.tmp 24) 2, type := 35, pos := "law.go:25", after := #[{ on := 6, ground := Ground.data }, { on := 12, ground := Ground.gcOnly Departure.lateStores }], guard := none }) (v := .int .i64 (wrongM M c)) rfl (by kernel_rfl) (by kernel_rfl) (by kernel_rfl) (by kernel_rfl) (fun _ _ _ h => h) (Or.inl ⟨by rfl, fun w0 hS0 => ?_⟩) (by assumption) ?_
          · go_simp
          try simp only [Act.put, List.setIfInBounds_toArray, List.set_cons_zero, List.set_cons_succ]
          refine Till.next (i := 11) (o := { dst := none, op := Op.store 32 (Operand.tmp 7) (Operand.tmp 31), type := 0, pos := "law.go:25", after := #[{ on := 10, ground := Ground.data }, { on := 7, ground := Ground.data }, { on := 5, ground := Ground.chain }, { on := 0, ground := Ground.phase }, { on := 1, ground := Ground.phase }, { on := 2, ground := Ground.phase }, { on := 3, ground := Ground.phase }, { on := 4, ground := Ground.phase }, { on := 5, ground := Ground.phase }, { on := 6, ground := Ground.phase }, { on := 7, ground := Ground.phase }, { on := 8, ground := Ground.textOnly Departure.lateStores }, { on := 9, ground := Ground.textOnly Departure.lateStores }, { on := 10, ground := Ground.phase }], guard := none }) (by kernel_rfl) rfl (fun K hK => ?_)
          refine step_store_row rfl 32 (.tmp 7) (.tmp 31) rfl (w5.drew.heap.size) #[r'.n, r'.l, r'.c, r'.d, r'.a, r'.f] rfl rfl 32 nilsR (HQ8.out) sizeRef rfl HN6.out ?_
          refine hK.out _ _ (fun _ => HBt.out.from hHeld6 hHeld.size hHeld6.size) ?_
          clear hK K
          try simp only [Act.put, List.setIfInBounds_toArray, List.set_cons_zero, List.set_cons_succ]
          refine Till.next (i := 12) (o := { dst := some 8, op := Op.assign (Operand.tmp 32), type := 3, pos := "law.go:25", after := #[{ on := 8, ground := Ground.data }, { on := 11, ground := Ground.chain }, { on := 0, ground := Ground.phase }, { on := 1, ground := Ground.phase }, { on := 2, ground := Ground.phase }, { on := 3, ground := Ground.phase }, { on := 4, ground := Ground.phase }, { on := 5, ground := Ground.phase }, { on := 6, ground := Ground.phase }, { on := 7, ground := Ground.phase }, { on := 8, ground := Ground.phase }, { on := 9, ground := Ground.textOnly Departure.lateStores }, { on := 10, ground := Ground.phase }, { on := 11, ground := Ground.phase }], guard := none }) (by kernel_rfl) rfl (fun K hK => ?_)
          go_simp
          refine hK.out _ _ (fun _ => HBt.out.from hHeld6 hHeld.size hHeld6.size) ?_
          clear hK K
          try simp only [Act.put, List.setIfInBounds_toArray, List.set_cons_zero, List.set_cons_succ]
          refine Till.next (i := 13) (o := { dst := some 9, op := Op.assign (Operand.tmp 33), type := 35, pos := "law.go:25", after := #[{ on := 9, ground := Ground.data }, { on := 12, ground := Ground.chain }, { on := 0, ground := Ground.phase }, { on := 1, ground := Ground.phase }, { on := 2, ground := Ground.phase }, { on := 3, ground := Ground.phase }, { on := 4, ground := Ground.phase }, { on := 5, ground := Ground.phase }, { on := 6, ground := Ground.phase }, { on := 7, ground := Ground.phase }, { on := 8, ground := Ground.phase }, { on := 9, ground := Ground.phase }, { on := 10, ground := Ground.phase }, { on := 11, ground := Ground.phase }, { on := 12, ground := Ground.phase }], guard := none }) (by kernel_rfl) rfl (fun K hK => ?_)
          go_simp
          refine hK.out _ _ (fun q => absurd rfl q) ?_
          clear hK K
          try simp only [Act.put, List.setIfInBounds_toArray, List.set_cons_zero, List.set_cons_succ]
          refine Till.done (by kernel_rfl) ?_
          go_wp2_with fail
          go_meet
          exact ⟨_, rfl, r', L', setRow_heap _ _ _ _ _ _ HQ8.out, HBt.out.rs HQ8.out HR6.out, HE6.out, l6, HBt.out.from hHeld6 hHeld.size hHeld6.size, hHeld.size⟩
      case rest =>
        obtain ⟨B7, rfl, r', L', hb7, R7, E7, l7, bel7, ge7⟩ := hcut
        have HN7 := Lib.hid (rs_one R7)
        have HR7 := Lib.hid R7
        have HE7 := Lib.hid E7
        have HL7 := Lib.hid hb7
        have HBL := Lib.hid bel7
        have hb5 := box_keep2 HB5.out bel7
        have HX5 := Lib.hid hb5
        have HQ7 := Lib.hid (box_keep2 HQ5.out bel7)
        have HBt := Lib.hid (but_setRow hb5 #[r'.n, r'.l, r'.c, r'.d, r'.a, r'.f])
        clear R7 E7 hb7 bel7 hb5
        go_wp2_with (first
          | (refine wpList_load_row rfl 32 (.tmp 7) rfl B7 rfl _ _ _ _ HL7.out Tryz.underlying32 rfl (by rw [sizeRef]; rfl) ?_)
          | (refine wpList_store_row rfl 32 (.tmp 5) (.tmp 34) rfl B5 #[r'.n, r'.l, r'.c, r'.d, r'.a, r'.f] rfl rfl 32 _ HX5.out sizeRef rfl HN7.out ?_))
        go_roundw
        case rel =>
          refine ⟨k + 1, L', r', by omega, by simp, by omega, Lib.hid ⟨?_, ?_, ?_⟩, ?_, setRow_heap _ _ _ _ _ _ HX5.out⟩
          · rw [HK.out]; exact (HH5.out.keep HBL.out).but HBt.out HX5.out (by have := HLT.out; omega)
          · rw [HK.out]; exact HBt.out.rs HX5.out HR7.out
          · rw [HK.out]; exact HE7.out
          · exact (HBt.out.block _ (heap_lt HQ7.out) (by have := HLT.out; omega)).trans HQ7.out
        case measure => simp [intOf]; omega
    · have d1 : decide ((k : Int) < (cs.length : Int)) = false := decide_eq_false (by omega)
      obtain rfl : k = cs.length := by omega
      have HTK := Lib.hid (show Twin w p (runM cs newM) L r wr from by have := HT.out; rwa [List.take_length] at this)
      have HF8 := Lib.hid (show ∀ W, Below wr.heap.size wr W → W.cell? ⟨B5, 0, none⟩ = some r.n ∧ W.cell? ⟨B5, 1, none⟩ = some r.l ∧ W.cell? ⟨B5, 2, none⟩ = some r.c ∧ W.cell? ⟨B5, 3, none⟩ = some r.d ∧ W.cell? ⟨B5, 4, none⟩ = some r.a ∧ W.cell? ⟨B5, 5, none⟩ = some r.f from fun W hW => by
        have q := box_keep2 HBX.out hW
        refine ⟨?_, ?_, ?_, ?_, ?_, ?_⟩ <;> (rw [cell_of_row _ _ _ _ _ _ q]; rfl))
      have HN8 := Lib.hid (rs_one HT.out.rs)
      go_upto_region 8 with fail
      refine Till.region (z := 3) (S := fun w' => Below wr.heap.size wr w') (by kernel_rfl) ((Below.refl _ _).drew) (fun hHeld => ?_)
      have HB8 := Lib.hid hHeld
      have HQ8 := Lib.hid (box_keep2 HQ.out hHeld)
      have HBt := Lib.hid (but_setRow HQ8.out #[r.n, r.l, r.c, r.d, r.a, r.f])
      refine Till.take (i := 0) (oi := { dst := some 35, op := Op.move (Operand.tmp 4), type := 26, pos := "law.go:28", after := #[], guard := none }) (v := .pointer (some ⟨p, 0, none⟩)) rfl (by kernel_rfl) (by kernel_rfl) (by kernel_rfl) (by kernel_rfl) (fun _ _ _ h => h) (Or.inl ⟨by rfl, fun w0 hS0 => ?_⟩) (by assumption) ?_
      · go_simp
      try simp only [Act.put, List.setIfInBounds_toArray, List.set_cons_zero, List.set_cons_succ]
      refine Till.take (i := 1) (oi := { dst := some 36, op := Op.load 32 (Operand.tmp 5), type := 32, pos := "law.go:28", after := #[{ on := 2, ground := Ground.gcOnly Departure.lateStores }], guard := none }) (v := .agg #[r.n, r.l, r.c, r.d, r.a, r.f]) rfl (by kernel_rfl) (by kernel_rfl) (by kernel_rfl) (by kernel_rfl) (fun _ _ _ h => h) (Or.inl ⟨by rfl, fun w0 hS0 => ?_⟩) (by assumption) ?_
      · obtain ⟨c0, c1, c2, c3, c4, c5⟩ := HF8.out _ hS0; go_simp
      try simp only [Act.put, List.setIfInBounds_toArray, List.set_cons_zero, List.set_cons_succ]
      refine Till.next (i := 2) (o := { dst := some 2, op := Op.assign (Operand.tmp 35), type := 26, pos := "law.go:28", after := #[{ on := 0, ground := Ground.data }, { on := 0, ground := Ground.phase }, { on := 1, ground := Ground.textOnly Departure.lateStores }], guard := none }) (by kernel_rfl) rfl (fun K hK => ?_)
      go_simp
      refine hK.out _ _ (fun _ => HB8.out) ?_
      clear hK K
      try simp only [Act.put, List.setIfInBounds_toArray, List.set_cons_zero, List.set_cons_succ]
      refine Till.next (i := 3) (o := { dst := none, op := Op.store 32 (Operand.tmp 3) (Operand.tmp 36), type := 0, pos := "law.go:28", after := #[{ on := 1, ground := Ground.data }, { on := 2, ground := Ground.chain }, { on := 0, ground := Ground.phase }, { on := 1, ground := Ground.phase }, { on := 2, ground := Ground.phase }], guard := none }) (by kernel_rfl) rfl (fun K hK => ?_)
      refine step_store_row rfl 32 (.tmp 3) (.tmp 36) rfl w.heap.size #[r.n, r.l, r.c, r.d, r.a, r.f] rfl rfl 32 nilsR HQ8.out sizeRef rfl HN8.out ?_
      refine hK.out _ _ (fun q => absurd rfl q) ?_
      clear hK K
      try simp only [Act.put, List.setIfInBounds_toArray, List.set_cons_zero, List.set_cons_succ]
      refine Till.done (by kernel_rfl) ?_
      go_wp2_with fail
      refine bodyPost_ret (v := .tuple #[.pointer (some ⟨p, 0, none⟩), .agg #[r.n, r.l, r.c, r.d, r.a, r.f]]) ?_ rfl ⟨p, r, L, rfl, ?_, hL⟩
      · exact results_made rfl rfl (setRow_heap _ _ _ _ _ _ HQ8.out) rfl
      · exact ⟨(HTK.out.fs.keep HB8.out).but HBt.out HQ8.out (Nat.le_refl _), HBt.out.rs HQ8.out (HTK.out.rs.keep HB8.out), HTK.out.rel⟩
end Go.Proofs.YtigkdehaepenhaaGreatDoor.V
