/-
  What Made returns: both file systems, behind the same changes. Conditions: at most 400 changes, texts that Few lets through.
  What few changes make is within the bounds that the facts of nodes ask: numbers of 64 bits, modes of 12 bits, three kinds, short texts. Conditions: few changes.
  What facts.Format returns of a file system that lies in memory; that the laws' own first question is answered. Conditions: the file system lies in memory; a format of at most 1000 bytes, names of at most 60000; the tables lie.
  What the reference's Format returns: a format, with what each directive tells in its place. Conditions: what its One returns is known; a format of at most 1000 bytes.
  What the reference's Format returns of a file system that few changes made; that the law FactsFormats returns true. Conditions: the tables lie; what came in lies in memory.
-/
import Derived.Test.YtigkdehaepenhaaGreatDoorVTwin
import Derived.Test.YtigkdehaepenhaaGreatDoorFPMark
import Derived.Test.YtigkdehaepenhaaGreatDoorFJTold
import Derived.Test.YtigkdehaepenhaaGreatDoorFQC
import Derived.Test.YtigkdehaepenhaaGreatDoorFJRefOne
import Derived.Test.YtigkdehaepenhaaGreatDoorFVRefAsk
import Derived.Test.YtigkdehaepenhaaGreatDoorFQRefQ
set_option linter.unusedVariables false
set_option linter.unusedSimpArgs false
namespace Go.Proofs.YtigkdehaepenhaaGreatDoor.V
open Go.RowKit Go.BigFrame

def MadeRel (cs : List Chg) (w : World) (p B5 : Nat) (v : Value) (wr : World) : Prop := ∃ (k : Nat) (L : List It) (r : Rv), k ≤ cs.length ∧ v = .int .i64 (k : Int) ∧ L.length ≤ k ∧ Hid (Twin w p (runM (cs.take k) newM) L r wr) ∧
  wr.heap[w.heap.size]? = some (.cells nilsR 32 (0, 0)) ∧ wr.heap[B5]? = some (.cells #[r.n, r.l, r.c, r.d, r.a, r.f] 32 (0, 0))

def MadeMid (w5 : World) (M : List Nd) (c : Chg) (L : List It) (B7 : Nat) (W : World) : Prop := ∃ (r : Rv) (L' : List It), W.heap[B7]? = some (.cells #[r.n, r.l, r.c, r.d, r.a, r.f] 32 (0, 0)) ∧ Rs (doM M c) L' r W ∧ Rel (doM M c) L' ∧ L'.length ≤ L.length + 1 ∧ Below w5.heap.size w5 W ∧ w5.heap.size ≤ B7
theorem rs_one {M : List Nd} {L : List It} {v : Rv} {w : World} (h : Rs M L v w) : (#[v.n, v.l, v.c, v.d, v.a, v.f] : Array Value).all (·.oneCell') = true := rv_one (rown_rs h)
theorem But.from {b B : Nat} {w0 w w' : World} (h : But b w w') (h0 : Below B w0 w) (hB : B ≤ b) (hw : B ≤ w.heap.size) : Below B w0 w' := h.below h0 hB hw

theorem runM_pos : ∀ (cs : List Chg) (M : List Nd), 0 < M.length → 0 < (runM cs M).length
  | [], M, h => h
  | c :: r, M, h => runM_pos r (doM M c) (len_do h)
theorem Has.but {w0 w w' : World} {p b : Nat} {M : List Nd} (h : Has w0 p M w) (g : But b w w') {cs : Array Value} (hb : w.heap[b]? = some (.cells cs 32 (0, 0))) (hB : w0.heap.size ≤ b) : Has w0 p M w' := by
  obtain ⟨h, h1, h2, H, hb1, hf⟩ := h
  refine ⟨h, h1, h2, H.at (fun k hk => g.block k (H.lt hk) ?_), g.below hb1 hB hb1.size, hf⟩
  rintro rfl
  obtain ⟨cur, T, hc, hT⟩ := foot_type H hk
  rw [hb] at hc
  simp only [Option.some.injEq, Obj.cells.injEq, and_true] at hc
  obtain ⟨_, rfl⟩ := hc
  revert hT
  decide
theorem results_made {tmps : Array Value} {w : World} {g : Nat} {p' : Value} {cs : Array Value} {T : TypeId} {fr : Nat × Nat} (h2 : tmps.getD 2 undef = p') (h3 : tmps.getD 3 undef = .pointer (some ⟨g, 0, none⟩)) (hg : w.heap[g]? = some (.cells cs T fr)) (hs : cs.size = 6) :
    (results Tryz.f8 tmps).run Tryz.prog w = .ok (.tuple #[p', .agg cs]) w := by
  have hp' : tmps[3]?.getD undef = .pointer (some ⟨g, 0, none⟩) := by simpa using h3
  have hp2 : tmps[2]?.getD undef = p' := by simpa using h2
  have hl := run_loadVar_row (P := Tryz.prog) w g T 32 cs fr _ hg Tryz.underlying32 rfl (by rw [sizeRef, hs])
  simp [results, hp', hp2, asAddr, hl]

theorem Has.from {w0 w1 w : World} {p : Nat} {M : List Nd} (h : Has w1 p M w) (hb : Below w0.heap.size w0 w1) : Has w0 p M w := by
  obtain ⟨h, h1, h2, H, hb1, hf⟩ := h
  exact ⟨h, h1, h2, H, below_two hb hb1, fun k hk => Nat.le_trans hb.size (hf k hk)⟩

set_option maxRecDepth 100000 in
set_option maxHeartbeats 8000000 in
theorem made_any (cs : List Chg) (a : Option Addr) (cap : Nat) (w : World) (H : IsChgs w a cs) (hl : cs.length ≤ 400) (hf : FewL cs) (hn : ∀ c ∈ cs, -9223372036854775808 ≤ c.n ∧ c.n ≤ 9223372036854775807) :
    Calls Tryz.prog 8 #[.slice a cs.length cap] w fun e w' => ∃ p r L, e = .returned (.tuple #[.pointer (some ⟨p, 0, none⟩), rvV r]) ∧ Twin w p (runM cs newM) L r w' ∧ L.length ≤ cs.length := by
  have HH := Lib.hid H
  have HF := Lib.hid hf
  have HN := Lib.hid hn
  clear H hf hn
  have q0 := heap_alloc_new w (.cells nilsR 32)
  have B0 := (Below.refl w.heap.size w).alloc (Nat.le_refl _) (.cells nilsR 32)
  have HQ0 := Lib.hid q0
  have HB0 := Lib.hid B0
  unfold nilsR at q0 B0
  go_enter Tryz.func8, Tryz.ntmps8
  go_upto_region 2 with (first
    | (go_at_call 17; refine (new_any _).mono ?_; rintro e w2 ⟨p, rfl, H2⟩; have HP2 := Lib.hid (H2.from HB0.out); have HQ2 := Lib.hid (box_keep2 HQ0.out H2.below); clear H2 q0 B0)
    | (go_at_call 18; refine (rnew_any _).mono ?_; rintro e w3 ⟨v3, rfl, ho3, hb3⟩; have HT3 := Lib.hid (show Twin w p newM [] v3 w3 from ⟨HP2.out.keep hb3, rs_new ho3, rel_new⟩); have HQ3 := Lib.hid (box_keep2 HQ2.out hb3); have HN3 := Lib.hid (rv_one ho3); clear ho3 hb3)
    | (refine wpList_store_row rfl 32 (.tmp 5) (.tmp 11) rfl w3.heap.size #[v3.n, v3.l, v3.c, v3.d, v3.a, v3.f] rfl rfl 32 nilsR (heap_alloc_new _ _) sizeRef rfl HN3.out ?_; rw [World.setRow_alloc_new]))
  have HB4 := Lib.hid (show Below w3.heap.size w3 (w3.alloc (.cells #[v3.n, v3.l, v3.c, v3.d, v3.a, v3.f] 32)) from (Below.refl _ _).alloc (Nat.le_refl _) _)
  have HQ4 := Lib.hid (heap_alloc_new w3 (.cells #[v3.n, v3.l, v3.c, v3.d, v3.a, v3.f] 32))
  have HBW := Lib.hid (show Below w.heap.size w (w3.alloc (.cells #[v3.n, v3.l, v3.c, v3.d, v3.a, v3.f] 32)) from (HT3.out.keep HB4.out).fs.below)
  generalize w3.alloc (.cells #[v3.n, v3.l, v3.c, v3.d, v3.a, v3.f] 32) = w4 at HB4 HQ4 HBW ⊢
  have HR0 := Lib.hid (show MadeRel cs w p w3.heap.size (.int .i64 0) w4 from ⟨0, [], v3, Nat.zero_le _, rfl, Nat.zero_le _, Lib.hid (HT3.out.keep HB4.out), box_keep2 HQ3.out HB4.out, HQ4.out⟩)
  have HLT := Lib.hid (heap_lt HQ3.out)
  generalize w3.heap.size = B5 at HR0 HQ4 HLT ⊢
  go_wp2_with fail
  go_loopw [6] (MadeRel cs w p B5) (fun v _ => cs.length - (intOf v).toNat)
  case atStart => exact HR0.out
  case round =>
    obtain ⟨k, L, r, hk, rfl, hL, HT, hq, hb⟩ := hrel
    have HQ := Lib.hid hq
    have HBX := Lib.hid hb
    clear hq hb
    by_cases hlt : k < cs.length
    · have d1 : decide ((k : Int) < (cs.length : Int)) = true := decide_eq_true (by omega)
      obtain ⟨c, hc⟩ : ∃ c, cs[k]? = some c := ⟨_, List.getElem?_eq_getElem hlt⟩
      obtain ⟨g, o, rfl, hr⟩ := (HH.out.keep HT.out.fs.below).at_ hc
      have HR := Lib.hid (show ∀ W, Below w.heap.size w W → W.rangeAt g (o + k * 8) (chgL c) from fun W hW => by
        obtain ⟨g', o', e, h⟩ := (HH.out.keep hW).at_ hc
        cases e
        exact h)
      have HRW := Lib.hid hr
      have HC := Lib.hid hc
      have HK := Lib.hid (runM_take hc newM)
      obtain ⟨n1, n2⟩ := HN.out c (List.mem_of_getElem? hc)
      obtain ⟨s1, s2⟩ := HF.out k c (by omega) hc
      have HSM := Lib.hid (show Small (runM (cs.take k) newM) k from by
        have := runM_small (cs.take k) newM 0 new_small
        rwa [List.length_take, Nat.min_eq_left hk, Nat.zero_add] at this)
      have HDV := Lib.hid (runM_dev (cs.take k) newM devInv_new)
      have HM0 := Lib.hid (runM_pos (cs.take k) newM (by decide))
      clear hr hc
      generalize runM (cs.take k) newM = M at HT HK HSM HDV HM0
      have HCV := Lib.hid (show chgV c = .agg (chgL c).toArray from rfl)
      have HD := Lib.hid (has_do_keeps (c := c) HT.out.fs HSM.out (by omega) HM0.out ⟨n1, n2⟩)
      go_upto_region 6 with (first
        | (refine wpList_load_mid rfl 54 (.tmp 21) rfl g (o + k * 8) rfl (chgL c) _ HRW.out Tryz.underlying54 rfl sizeChg ?_)
        | (go_at_call 19; rw [← HCV.out]; refine HD.out.mono ?_; rintro e w5 ⟨rfl, H5, K5, z5⟩; have HH5 := Lib.hid H5; have HK5 := Lib.hid K5; clear H5 K5))
      have HW5 := Lib.hid HH5.out.below
      have HB5 := Lib.hid (HK5.out B5 _ _ HBX.out (by decide) (by decide) (by decide))
      have HQ5 := Lib.hid (HK5.out _ _ _ HQ.out (by decide) (by decide) (by decide))
      have HS5 := Lib.hid (HK5.out.rs HT.out.rs)
      have HFc := Lib.hid (show ∀ W, Below w5.heap.size w5 W → W.cell? ⟨B5, 0, none⟩ = some r.n ∧ W.cell? ⟨B5, 1, none⟩ = some r.l ∧ W.cell? ⟨B5, 2, none⟩ = some r.c ∧ W.cell? ⟨B5, 3, none⟩ = some r.d ∧ W.cell? ⟨B5, 4, none⟩ = some r.a ∧ W.cell? ⟨B5, 5, none⟩ = some r.f from fun W hW => by
        have q := box_keep2 HB5.out hW
        refine ⟨?_, ?_, ?_, ?_, ?_, ?_⟩ <;> (rw [cell_of_row _ _ _ _ _ _ q]; rfl))
      have HCc := Lib.hid (show ∀ W, Below w5.heap.size w5 W → W.cell? ⟨g, o + k * 8, none⟩ = some (.int .i64 c.kind) ∧ W.cell? ⟨g, o + k * 8 + 1, none⟩ = some (.int .i64 c.at_) ∧ W.cell? ⟨g, o + k * 8 + 2, none⟩ = some (.int .i64 c.to) ∧ W.cell? ⟨g, o + k * 8 + 3, none⟩ = some (.string c.name) ∧ W.cell? ⟨g, o + k * 8 + 4, none⟩ = some (.string c.text) ∧ W.cell? ⟨g, o + k * 8 + 5, none⟩ = some (.int .i64 c.a) ∧ W.cell? ⟨g, o + k * 8 + 6, none⟩ = some (.int .i64 c.b) ∧ W.cell? ⟨g, o + k * 8 + 7, none⟩ = some (.int .i64 c.n) from fun W hW => by
        have q := HR.out W (below_two HW5.out hW)
        exact ⟨q 0 _ rfl, q 1 _ rfl, q 2 _ rfl, q 3 _ rfl, q 4 _ rfl, q 5 _ rfl, q 6 _ rfl, q 7 _ rfl⟩)
      have HRD := Lib.hid (show ∀ W, Below w5.heap.size w5 W → Calls Tryz.prog 20 #[.agg #[r.n, r.l, r.c, r.d, r.a, r.f], chgV c] W (RDoP M L c W) from fun W hW => rdo_any M L r c W (HS5.out.keep hW) HT.out.rel HDV.out (by have := HSM.out.1; omega) (by omega) HM0.out (by omega) (by omega) n2)
      go_cut [7, 8, 9] from 24 to 34 (fun a7 a8 a9 wx => ∃ B7, a7 = .pointer (some ⟨B7, 0, none⟩) ∧ MadeMid w5 M c L B7 wx)
      case first =>
        refine Till.region (z := 13) (S := fun w' => Below w5.heap.size w5 w') (by kernel_rfl) ((Below.refl _ _).drew) (fun hHeld => ?_)
        refine Till.take (i := 0) (oi := { dst := some 25, op := Op.load 32 (Operand.tmp 5), type := 32, pos := "law.go:25", after := #[], guard := none }) (v := .agg #[r.n, r.l, r.c, r.d, r.a, r.f]) rfl (by kernel_rfl) (by kernel_rfl) (by kernel_rfl) (by kernel_rfl) (fun _ _ _ h => h) (Or.inl ⟨by rfl, fun w0 hS0 => ?_⟩) (by assumption) ?_
        · obtain ⟨c0, c1, c2, c3, c4, c5⟩ := HFc.out _ hS0; go_simp
        try simp only [Act.put, List.setIfInBounds_toArray, List.set_cons_zero, List.set_cons_succ]
        refine Till.take (i := 1) (oi := { dst := some 26, op := Op.move (Operand.tmp 0), type := 22, pos := "law.go:25", after := #[], guard := none }) (v := .slice (some ⟨g, o, none⟩) cs.length cap) rfl (by kernel_rfl) (by kernel_rfl) (by kernel_rfl) (by kernel_rfl) (fun _ _ _ h => h) (Or.inl ⟨by rfl, fun w0 hS0 => ?_⟩) (by assumption) ?_
        · go_simp
        try simp only [Act.put, List.setIfInBounds_toArray, List.set_cons_zero, List.set_cons_succ]
        refine Till.take (i := 2) (oi := { dst := some 27, op := Op.move (Operand.tmp 6), type := 3, pos := "law.go:25", after := #[], guard := none }) (v := .int .i64 (k : Int)) rfl (by kernel_rfl) (by kernel_rfl) (by kernel_rfl) (by kernel_rfl) (fun _ _ _ h => h) (Or.inl ⟨by rfl, fun w0 hS0 => ?_⟩) (by assumption) ?_
        · go_simp
        try simp only [Act.put, List.setIfInBounds_toArray, List.set_cons_zero, List.set_cons_succ]
        refine Till.take (i := 3) (oi := { dst := some 28, op := Op.indexAddr 22 (Operand.tmp 26) (Operand.tmp 27), type := 0, pos := "law.go:25", after := #[{ on := 1, ground := Ground.data }, { on := 2, ground := Ground.data }], guard := none }) (v := .pointer (some ⟨g, o + k * 8, none⟩)) rfl (by kernel_rfl) (by kernel_rfl) (by kernel_rfl) (by kernel_rfl) (fun _ _ _ h => h) (Or.inl ⟨by rfl, fun w0 hS0 => ?_⟩) (by assumption) ?_
        · go_simp
        try simp only [Act.put, List.setIfInBounds_toArray, List.set_cons_zero, List.set_cons_succ]
        refine Till.take (i := 4) (oi := { dst := some 29, op := Op.load 54 (Operand.tmp 28), type := 54, pos := "law.go:25", after := #[{ on := 3, ground := Ground.data }], guard := none }) (v := chgV c) rfl (by kernel_rfl) (by kernel_rfl) (by kernel_rfl) (by kernel_rfl) (fun _ _ _ h => h) (Or.inl ⟨by rfl, fun w0 hS0 => ?_⟩) (by assumption) ?_
        · obtain ⟨c0, c1, c2, c3, c4, c5, c6, c7⟩ := HCc.out _ hS0; unfold chgV; go_simp
        try simp only [Act.put, List.setIfInBounds_toArray, List.set_cons_zero, List.set_cons_succ]
        refine Till.two (i := 5) (j := 10) (o := { dst := some 30, op := Op.call { callee := Callee.value (Operand.func 20), args := #[Operand.tmp 25, Operand.tmp 29], argTypes := #[32, 54] }, type := 58, pos := "law.go:25", after := #[{ on := 0, ground := Ground.data }, { on := 4, ground := Ground.data }], guard := none }) (o' := { dst := some 7, op := Op.alloc 32, type := 0, pos := "law.go:25", after := #[], guard := none }) (by kernel_rfl) rfl rfl (fun K hK => ?_) (fun K hK => ?_)
        · go_simp
          refine (HRD.out _ (hHeld)).mono ?_
          rintro e w6 ⟨r', L', rfl, R6, E6, l6, b6⟩
          have HR6 := Lib.hid R6
          have HN6 := Lib.hid (rs_one R6)
          have HE6 := Lib.hid E6
          have HB6 := Lib.hid (below_two (hHeld) b6)
          clear R6 E6 b6
          go_wp2_with fail
          refine hK.out _ _ (fun _ => HB6.out) ?_
          clear hK K
          have hHeld6 := HB6.out
          try simp only [Act.put, List.setIfInBounds_toArray, List.set_cons_zero, List.set_cons_succ]
          refine Till.take (i := 6) (oi := { dst := some 24, op := Op.move (Operand.tmp 30), type := 58, pos := "law.go:25", after := #[{ on := 5, ground := Ground.data }], guard := none }) (v := .tuple #[rvV r', .int .i64 (doR M c), .int .i64 (wrongM M c)]) rfl (by kernel_rfl) (by kernel_rfl) (by kernel_rfl) (by kernel_rfl) (fun _ _ _ h => h) (Or.inl ⟨by rfl, fun w0 hS0 => ?_⟩) (by assumption) ?_
          · go_simp
          try simp only [Act.put, List.setIfInBounds_toArray, List.set_cons_zero, List.set_cons_succ]
          refine Till.take (i := 7) (oi := { dst := some 31, op := Op.extract (Operand.tmp 24) 0, type := 32, pos := "law.go:25", after := #[{ on := 6, ground := Ground.data }], guard := none }) (v := rvV r') rfl (by kernel_rfl) (by kernel_rfl) (by kernel_rfl) (by kernel_rfl) (fun _ _ _ h => h) (Or.inl ⟨by rfl, fun w0 hS0 => ?_⟩) (by assumption) ?_
          · go_simp
          try simp only [Act.put, List.setIfInBounds_toArray, List.set_cons_zero, List.set_cons_succ]
          refine Till.take (i := 8) (oi := { dst := some 32, op := Op.extract (Operand.tmp 24) 1, type := 3, pos := "law.go:25", after := #[{ on := 6, ground := Ground.data }, { on := 11, ground := Ground.gcOnly Departure.lateStores }], guard := none }) (v := .int .i64 (doR M c)) rfl (by kernel_rfl) (by kernel_rfl) (by kernel_rfl) (by kernel_rfl) (fun _ _ _ h => h) (Or.inl ⟨by rfl, fun w0 hS0 => ?_⟩) (by assumption) ?_
          · go_simp
          try simp only [Act.put, List.setIfInBounds_toArray, List.set_cons_zero, List.set_cons_succ]
          refine Till.take (i := 9) (oi := { dst := some 33, op := Op.extract (Operand.tmp 24) 2, type := 35, pos := "law.go:25", after := #[{ on := 6, ground := Ground.data }, { on := 12, ground := Ground.gcOnly Departure.lateStores }], guard := none }) (v := .int .i64 (wrongM M c)) rfl (by kernel_rfl) (by kernel_rfl) (by kernel_rfl) (by kernel_rfl) (fun _ _ _ h => h) (Or.inl ⟨by rfl, fun w0 hS0 => ?_⟩) (by assumption) ?_
          · go_simp
          try simp only [Act.put, List.setIfInBounds_toArray, List.set_cons_zero, List.set_cons_succ]
          refine Till.next (i := 10) (o := { dst := some 7, op := Op.alloc 32, type := 0, pos := "law.go:25", after := #[], guard := none }) (by kernel_rfl) rfl (fun K hK => ?_)
          go_simp
          refine hK.out _ _ (fun _ => HB6.out.alloc HB6.out.size _) ?_
          clear hK K
          have hHeld7 := HB6.out.alloc HB6.out.size (.cells nilsR 32)
          have HBt := Lib.hid (but_setRow (heap_alloc_new w6 (.cells nilsR 32)) #[r'.n, r'.l, r'.c, r'.d, r'.a, r'.f])
          try simp only [Act.put, List.setIfInBounds_toArray, List.set_cons_zero, List.set_cons_succ]
          refine Till.next (i := 11) (o := { dst := none, op := Op.store 32 (Operand.tmp 7) (Operand.tmp 31), type := 0, pos := "law.go:25", after := #[{ on := 10, ground := Ground.data }, { on := 7, ground := Ground.data }, { on := 5, ground := Ground.chain }, { on := 0, ground := Ground.phase }, { on := 1, ground := Ground.phase }, { on := 2, ground := Ground.phase }, { on := 3, ground := Ground.phase }, { on := 4, ground := Ground.phase }, { on := 5, ground := Ground.phase }, { on := 6, ground := Ground.phase }, { on := 7, ground := Ground.phase }, { on := 8, ground := Ground.textOnly Departure.lateStores }, { on := 9, ground := Ground.textOnly Departure.lateStores }, { on := 10, ground := Ground.phase }], guard := none }) (by kernel_rfl) rfl (fun K hK => ?_)
          refine step_store_row rfl 32 (.tmp 7) (.tmp 31) rfl (w6.heap.size) #[r'.n, r'.l, r'.c, r'.d, r'.a, r'.f] rfl rfl 32 nilsR (heap_alloc_new _ _) sizeRef rfl HN6.out ?_
          refine hK.out _ _ (fun _ => HBt.out.from hHeld7 HB6.out.size hHeld7.size) ?_
          clear hK K
          try simp only [Act.put, List.setIfInBounds_toArray, List.set_cons_zero, List.set_cons_succ]
          refine Till.next (i := 12) (o := { dst := some 8, op := Op.assign (Operand.tmp 32), type := 3, pos := "law.go:25", after := #[{ on := 8, ground := Ground.data }, { on := 11, ground := Ground.chain }, { on := 0, ground := Ground.phase }, { on := 1, ground := Ground.phase }, { on := 2, ground := Ground.phase }, { on := 3, ground := Ground.phase }, { on := 4, ground := Ground.phase }, { on := 5, ground := Ground.phase }, { on := 6, ground := Ground.phase }, { on := 7, ground := Ground.phase }, { on := 8, ground := Ground.phase }, { on := 9, ground := Ground.textOnly Departure.lateStores }, { on := 10, ground := Ground.phase }, { on := 11, ground := Ground.phase }], guard := none }) (by kernel_rfl) rfl (fun K hK => ?_)
          go_simp
          refine hK.out _ _ (fun _ => HBt.out.from hHeld7 HB6.out.size hHeld7.size) ?_
          clear hK K
          try simp only [Act.put, List.setIfInBounds_toArray, List.set_cons_zero, List.set_cons_succ]
          refine Till.next (i := 13) (o := { dst := some 9, op := Op.assign (Operand.tmp 33), type := 35, pos := "law.go:25", after := #[{ on := 9, ground := Ground.data }, { on := 12, ground := Ground.chain }, { on := 0, ground := Ground.phase }, { on := 1, ground := Ground.phase }, { on := 2, ground := Ground.phase }, { on := 3, ground := Ground.phase }, { on := 4, ground := Ground.phase }, { on := 5, ground := Ground.phase }, { on := 6, ground := Ground.phase }, { on := 7, ground := Ground.phase }, { on := 8, ground := Ground.phase }, { on := 9, ground := Ground.phase }, { on := 10, ground := Ground.phase }, { on := 11, ground := Ground.phase }, { on := 12, ground := Ground.phase }], guard := none }) (by kernel_rfl) rfl (fun K hK => ?_)
          go_simp
          refine hK.out _ _ (fun q => absurd rfl q) ?_
          clear hK K
          try simp only [Act.put, List.setIfInBounds_toArray, List.set_cons_zero, List.set_cons_succ]
          refine Till.done (by kernel_rfl) ?_
          go_wp2_with fail
          go_meet
          exact ⟨_, rfl, r', L', setRow_heap _ _ _ _ _ _ (heap_alloc_new _ _), HBt.out.rs (heap_alloc_new _ _) (HR6.out.keep ((Below.refl _ _).alloc (Nat.le_refl _) _)), HE6.out, l6, HBt.out.from hHeld7 HB6.out.size hHeld7.size, HB6.out.size⟩
        · go_simp
          refine hK.out _ _ (fun _ => hHeld.alloc hHeld.size _) ?_
          clear hK K
          have hHeld7 := hHeld.alloc hHeld.size (.cells nilsR 32)
          have HQ7 := Lib.hid (heap_alloc_new w5.drew (.cells nilsR 32))
          try simp only [Act.put, List.setIfInBounds_toArray, List.set_cons_zero, List.set_cons_succ]
          refine Till.next (i := 5) (o := { dst := some 30, op := Op.call { callee := Callee.value (Operand.func 20), args := #[Operand.tmp 25, Operand.tmp 29], argTypes := #[32, 54] }, type := 58, pos := "law.go:25", after := #[{ on := 0, ground := Ground.data }, { on := 4, ground := Ground.data }], guard := none }) (by kernel_rfl) rfl (fun K hK => ?_)
          go_simp
          refine (HRD.out _ (hHeld7)).mono ?_
          rintro e w6 ⟨r', L', rfl, R6, E6, l6, b6⟩
          have HR6 := Lib.hid R6
          have HN6 := Lib.hid (rs_one R6)
          have HE6 := Lib.hid E6
          have HB6 := Lib.hid (below_two (hHeld7) b6)
          have HQ8 := Lib.hid (box_keep2 HQ7.out b6)
          have HBt := Lib.hid (but_setRow HQ8.out #[r'.n, r'.l, r'.c, r'.d, r'.a, r'.f])
          clear R6 E6 b6
          go_wp2_with fail
          refine hK.out _ _ (fun _ => HB6.out) ?_
          clear hK K
          have hHeld6 := HB6.out
          try simp only [Act.put, List.setIfInBounds_toArray, List.set_cons_zero, List.set_cons_succ]
          refine Till.take (i := 6) (oi := { dst := some 24, op := Op.move (Operand.tmp 30), type := 58, pos := "law.go:25", after := #[{ on := 5, ground := Ground.data }], guard := none }) (v := .tuple #[rvV r', .int .i64 (doR M c), .int .i64 (wrongM M c)]) rfl (by kernel_rfl) (by kernel_rfl) (by kernel_rfl) (by kernel_rfl) (fun _ _ _ h => h) (Or.inl ⟨by rfl, fun w0 hS0 => ?_⟩) (by assumption) ?_
          · go_simp
          try simp only [Act.put, List.setIfInBounds_toArray, List.set_cons_zero, List.set_cons_succ]
          refine Till.take (i := 7) (oi := { dst := some 31, op := Op.extract (Operand.tmp 24) 0, type := 32, pos := "law.go:25", after := #[{ on := 6, ground := Ground.data }], guard := none }) (v := rvV r') rfl (by kernel_rfl) (by kernel_rfl) (by kernel_rfl) (by kernel_rfl) (fun _ _ _ h => h) (Or.inl ⟨by rfl, fun w0 hS0 => ?_⟩) (by assumption) ?_
          · go_simp
          try simp only [Act.put, List.setIfInBounds_toArray, List.set_cons_zero, List.set_cons_succ]
          refine Till.take (i := 8) (oi := { dst := some 32, op := Op.extract (Operand.tmp 24) 1, type := 3, pos := "law.go:25", after := #[{ on := 6, ground := Ground.data }, { on := 11, ground := Ground.gcOnly Departure.lateStores }], guard := none }) (v := .int .i64 (doR M c)) rfl (by kernel_rfl) (by kernel_rfl) (by kernel_rfl) (by kernel_rfl) (fun _ _ _ h => h) (Or.inl ⟨by rfl, fun w0 hS0 => ?_⟩) (by assumption) ?_
          · go_simp
          try simp only [Act.put, List.setIfInBounds_toArray, List.set_cons_zero, List.set_cons_succ]
          refine Till.take (i := 9) (oi := { dst := some 33, op := Op.extract (Operand.tmp 24) 2, type := 35, pos := "law.go:25", after := #[{ on := 6, ground := Ground.data }, { on := 12, ground := Ground.gcOnly Departure.lateStores }], guard := none }) (v := .int .i64 (wrongM M c)) rfl (by kernel_rfl) (by kernel_rfl) (by kernel_rfl) (by kernel_rfl) (fun _ _ _ h => h) (Or.inl ⟨by rfl, fun w0 hS0 => ?_⟩) (by assumption) ?_
          · go_simp
          try simp only [Act.put, List.setIfInBounds_toArray, List.set_cons_zero, List.set_cons_succ]
          refine Till.next (i := 11) (o := { dst := none, op := Op.store 32 (Operand.tmp 7) (Operand.tmp 31), type := 0, pos := "law.go:25", after := #[{ on := 10, ground := Ground.data }, { on := 7, ground := Ground.data }, { on := 5, ground := Ground.chain }, { on := 0, ground := Ground.phase }, { on := 1, ground := Ground.phase }, { on := 2, ground := Ground.phase }, { on := 3, ground := Ground.phase }, { on := 4, ground := Ground.phase }, { on := 5, ground := Ground.phase }, { on := 6, ground := Ground.phase }, { on := 7, ground := Ground.phase }, { on := 8, ground := Ground.textOnly Departure.lateStores }, { on := 9, ground := Ground.textOnly Departure.lateStores }, { on := 10, ground := Ground.phase }], guard := none }) (by kernel_rfl) rfl (fun K hK => ?_)
          refine step_store_row rfl 32 (.tmp 7) (.tmp 31) rfl (w5.drew.heap.size) #[r'.n, r'.l, r'.c, r'.d, r'.a, r'.f] rfl rfl 32 nilsR (HQ8.out) sizeRef rfl HN6.out ?_
          refine hK.out _ _ (fun _ => HBt.out.from hHeld6 hHeld.size hHeld6.size) ?_
          clear hK K
          try simp only [Act.put, List.setIfInBounds_toArray, List.set_cons_zero, List.set_cons_succ]
          refine Till.next (i := 12) (o := { dst := some 8, op := Op.assign (Operand.tmp 32), type := 3, pos := "law.go:25", after := #[{ on := 8, ground := Ground.data }, { on := 11, ground := Ground.chain }, { on := 0, ground := Ground.phase }, { on := 1, ground := Ground.phase }, { on := 2, ground := Ground.phase }, { on := 3, ground := Ground.phase }, { on := 4, ground := Ground.phase }, { on := 5, ground := Ground.phase }, { on := 6, ground := Ground.phase }, { on := 7, ground := Ground.phase }, { on := 8, ground := Ground.phase }, { on := 9, ground := Ground.textOnly Departure.lateStores }, { on := 10, ground := Ground.phase }, { on := 11, ground := Ground.phase }], guard := none }) (by kernel_rfl) rfl (fun K hK => ?_)
          go_simp
          refine hK.out _ _ (fun _ => HBt.out.from hHeld6 hHeld.size hHeld6.size) ?_
          clear hK K
          try simp only [Act.put, List.setIfInBounds_toArray, List.set_cons_zero, List.set_cons_succ]
          refine Till.next (i := 13) (o := { dst := some 9, op := Op.assign (Operand.tmp 33), type := 35, pos := "law.go:25", after := #[{ on := 9, ground := Ground.data }, { on := 12, ground := Ground.chain }, { on := 0, ground := Ground.phase }, { on := 1, ground := Ground.phase }, { on := 2, ground := Ground.phase }, { on := 3, ground := Ground.phase }, { on := 4, ground := Ground.phase }, { on := 5, ground := Ground.phase }, { on := 6, ground := Ground.phase }, { on := 7, ground := Ground.phase }, { on := 8, ground := Ground.phase }, { on := 9, ground := Ground.phase }, { on := 10, ground := Ground.phase }, { on := 11, ground := Ground.phase }, { on := 12, ground := Ground.phase }], guard := none }) (by kernel_rfl) rfl (fun K hK => ?_)
          go_simp
          refine hK.out _ _ (fun q => absurd rfl q) ?_
          clear hK K
          try simp only [Act.put, List.setIfInBounds_toArray, List.set_cons_zero, List.set_cons_succ]
          refine Till.done (by kernel_rfl) ?_
          go_wp2_with fail
          go_meet
          exact ⟨_, rfl, r', L', setRow_heap _ _ _ _ _ _ HQ8.out, HBt.out.rs HQ8.out HR6.out, HE6.out, l6, HBt.out.from hHeld6 hHeld.size hHeld6.size, hHeld.size⟩
      case rest =>
        obtain ⟨B7, rfl, r', L', hb7, R7, E7, l7, bel7, ge7⟩ := hcut
        have HN7 := Lib.hid (rs_one R7)
        have HR7 := Lib.hid R7
        have HE7 := Lib.hid E7
        have HL7 := Lib.hid hb7
        have HBL := Lib.hid bel7
        have hb5 := box_keep2 HB5.out bel7
        have HX5 := Lib.hid hb5
        have HQ7 := Lib.hid (box_keep2 HQ5.out bel7)
        have HBt := Lib.hid (but_setRow hb5 #[r'.n, r'.l, r'.c, r'.d, r'.a, r'.f])
        clear R7 E7 hb7 bel7 hb5
        go_wp2_with (first
          | (refine wpList_load_row rfl 32 (.tmp 7) rfl B7 rfl _ _ _ _ HL7.out Tryz.underlying32 rfl (by rw [sizeRef]; rfl) ?_)
          | (refine wpList_store_row rfl 32 (.tmp 5) (.tmp 34) rfl B5 #[r'.n, r'.l, r'.c, r'.d, r'.a, r'.f] rfl rfl 32 _ HX5.out sizeRef rfl HN7.out ?_))
        go_roundw
        case rel =>
          refine ⟨k + 1, L', r', by omega, by simp, by omega, Lib.hid ⟨?_, ?_, ?_⟩, ?_, setRow_heap _ _ _ _ _ _ HX5.out⟩
          · rw [HK.out]; exact (HH5.out.keep HBL.out).but HBt.out HX5.out (by have := HLT.out; omega)
          · rw [HK.out]; exact HBt.out.rs HX5.out HR7.out
          · rw [HK.out]; exact HE7.out
          · exact (HBt.out.block _ (heap_lt HQ7.out) (by have := HLT.out; omega)).trans HQ7.out
        case measure => simp [intOf]; omega
    · have d1 : decide ((k : Int) < (cs.length : Int)) = false := decide_eq_false (by omega)
      obtain rfl : k = cs.length := by omega
      have HTK := Lib.hid (show Twin w p (runM cs newM) L r wr from by have := HT.out; rwa [List.take_length] at this)
      have HF8 := Lib.hid (show ∀ W, Below wr.heap.size wr W → W.cell? ⟨B5, 0, none⟩ = some r.n ∧ W.cell? ⟨B5, 1, none⟩ = some r.l ∧ W.cell? ⟨B5, 2, none⟩ = some r.c ∧ W.cell? ⟨B5, 3, none⟩ = some r.d ∧ W.cell? ⟨B5, 4, none⟩ = some r.a ∧ W.cell? ⟨B5, 5, none⟩ = some r.f from fun W hW => by
        have q := box_keep2 HBX.out hW
        refine ⟨?_, ?_, ?_, ?_, ?_, ?_⟩ <;> (rw [cell_of_row _ _ _ _ _ _ q]; rfl))
      have HN8 := Lib.hid (rs_one HT.out.rs)
      go_upto_region 8 with fail
      refine Till.region (z := 3) (S := fun w' => Below wr.heap.size wr w') (by kernel_rfl) ((Below.refl _ _).drew) (fun hHeld => ?_)
      have HB8 := Lib.hid hHeld
      have HQ8 := Lib.hid (box_keep2 HQ.out hHeld)
      have HBt := Lib.hid (but_setRow HQ8.out #[r.n, r.l, r.c, r.d, r.a, r.f])
      refine Till.take (i := 0) (oi := { dst := some 35, op := Op.move (Operand.tmp 4), type := 26, pos := "law.go:28", after := #[], guard := none }) (v := .pointer (some ⟨p, 0, none⟩)) rfl (by kernel_rfl) (by kernel_rfl) (by kernel_rfl) (by kernel_rfl) (fun _ _ _ h => h) (Or.inl ⟨by rfl, fun w0 hS0 => ?_⟩) (by assumption) ?_
      · go_simp
      try simp only [Act.put, List.setIfInBounds_toArray, List.set_cons_zero, List.set_cons_succ]
      refine Till.take (i := 1) (oi := { dst := some 36, op := Op.load 32 (Operand.tmp 5), type := 32, pos := "law.go:28", after := #[{ on := 2, ground := Ground.gcOnly Departure.lateStores }], guard := none }) (v := .agg #[r.n, r.l, r.c, r.d, r.a, r.f]) rfl (by kernel_rfl) (by kernel_rfl) (by kernel_rfl) (by kernel_rfl) (fun _ _ _ h => h) (Or.inl ⟨by rfl, fun w0 hS0 => ?_⟩) (by assumption) ?_
      · obtain ⟨c0, c1, c2, c3, c4, c5⟩ := HF8.out _ hS0; go_simp
      try simp only [Act.put, List.setIfInBounds_toArray, List.set_cons_zero, List.set_cons_succ]
      refine Till.next (i := 2) (o := { dst := some 2, op := Op.assign (Operand.tmp 35), type := 26, pos := "law.go:28", after := #[{ on := 0, ground := Ground.data }, { on := 0, ground := Ground.phase }, { on := 1, ground := Ground.textOnly Departure.lateStores }], guard := none }) (by kernel_rfl) rfl (fun K hK => ?_)
      go_simp
      refine hK.out _ _ (fun _ => HB8.out) ?_
      clear hK K
      try simp only [Act.put, List.setIfInBounds_toArray, List.set_cons_zero, List.set_cons_succ]
      refine Till.next (i := 3) (o := { dst := none, op := Op.store 32 (Operand.tmp 3) (Operand.tmp 36), type := 0, pos := "law.go:28", after := #[{ on := 1, ground := Ground.data }, { on := 2, ground := Ground.chain }, { on := 0, ground := Ground.phase }, { on := 1, ground := Ground.phase }, { on := 2, ground := Ground.phase }], guard := none }) (by kernel_rfl) rfl (fun K hK => ?_)
      refine step_store_row rfl 32 (.tmp 3) (.tmp 36) rfl w.heap.size #[r.n, r.l, r.c, r.d, r.a, r.f] rfl rfl 32 nilsR HQ8.out sizeRef rfl HN8.out ?_
      refine hK.out _ _ (fun q => absurd rfl q) ?_
      clear hK K
      try simp only [Act.put, List.setIfInBounds_toArray, List.set_cons_zero, List.set_cons_succ]
      refine Till.done (by kernel_rfl) ?_
      go_wp2_with fail
      refine bodyPost_ret (v := .tuple #[.pointer (some ⟨p, 0, none⟩), .agg #[r.n, r.l, r.c, r.d, r.a, r.f]]) ?_ rfl ⟨p, r, L, rfl, ?_, hL⟩
      · exact results_made rfl rfl (setRow_heap _ _ _ _ _ _ HQ8.out) rfl
      · exact ⟨(HTK.out.fs.keep HB8.out).but HBt.out HQ8.out (Nat.le_refl _), HBt.out.rs HQ8.out (HTK.out.rs.keep HB8.out), HTK.out.rel⟩
end Go.Proofs.YtigkdehaepenhaaGreatDoor.V

namespace Go.Proofs.YtigkdehaepenhaaGreatDoor.J
open Go.Proofs.YtigkdehaepenhaaGreatDoor.B

structure OkJ (n : V.Nd) : Prop where
  size : I64 n.size
  blk : 0 ≤ n.blocks ∧ n.blocks ≤ 9223372036854775807
  t0 : I64 n.t0
  t1 : I64 n.t1
  t2 : I64 n.t2
  uid : I64 n.uid
  gid : I64 n.gid
  m0 : 0 ≤ n.mode
  m1 : n.mode < 4096
  kind : n.kind = 1 ∨ n.kind = 2 ∨ n.kind = 3
  tgt : n.target.size ≤ 5000
def OkM (M : List V.Nd) : Prop := ∀ n ∈ M, OkJ n
theorem ok_mod {M : List V.Nd} {i : Nat} {f : V.Nd → V.Nd} (h : OkM M) (hf : ∀ n, OkJ n → OkJ (f n)) : OkM (M.modify i f) := V.all_modify (P := OkJ) (P' := OkJ) h (fun _ q => q) hf
theorem ok_app {M : List V.Nd} {n : V.Nd} (h : OkM M) (hn : OkJ n) : OkM (M ++ [n]) := fun x hx => by
  rcases List.mem_append.1 hx with hx | hx
  · exact h x hx
  · obtain rfl := List.mem_singleton.1 hx; exact hn
theorem ok_added {n : V.Nd} {d : Int} {M : List V.Nd} (h : OkJ n) : OkJ (V.addedNd n d M) := ⟨h.size, h.blk, h.t0, h.t1, h.t2, h.uid, h.gid, h.m0, h.m1, h.kind, h.tgt⟩
theorem zero64 : I64 0 := i64_small (by decide) (by decide)
theorem ok_dir {m u : Int} (h0 : 0 ≤ m) (h1 : m < 4096) : OkJ (V.dirNd m u) := ⟨i64_small (show (0 : Int) ≤ 4096 by decide) (show (4096 : Int) ≤ _ by decide), ⟨(by decide : (0 : Int) ≤ 8), (by decide : (8 : Int) ≤ 9223372036854775807)⟩, zero64, zero64, zero64, zero64, zero64, h0, h1, .inr (.inl rfl), Nat.zero_le _⟩
theorem ok_new : OkM V.newM := fun n hn => by
  obtain rfl : n = V.addedNd (V.dirNd 493 0) 1 [] := by simpa [V.newM] using hn
  exact ok_added (ok_dir (by decide) (by decide))
theorem blk_bd {n : Int} (h : 0 ≤ n) (h2 : n ≤ 9223372036854775807) : 0 ≤ V.blkOf n ∧ V.blkOf n ≤ 9223372036854775807 := by
  unfold V.blkOf
  split <;> omega
theorem file_size {M : List V.Nd} {c : V.Chg} (h : V.wrongM M c = 0) (hk : c.kind = 1) : 0 ≤ c.n := by
  unfold V.wrongM V.refuseE at h
  have hb : V.baseE (V.atM M) c = 0 := by
    split at h
    · cases h
    · exact h
  unfold V.baseE at hb
  rw [if_pos (by omega)] at hb
  unfold V.entryE at hb
  split at hb
  · cases hb
  · repeat' split at hb
    all_goals first | (cases hb; done) | omega
theorem ok_file {m n b : Int} (h0 : 0 ≤ m) (h1 : m < 4096) (h : I64 n) (hb : 0 ≤ b ∧ b ≤ 9223372036854775807) : OkJ (V.fileNd m n b) := ⟨h, hb, zero64, zero64, zero64, zero64, zero64, h0, h1, .inl rfl, Nat.zero_le _⟩
theorem ok_link {s : ByteArray} (h : s.size ≤ 5000) : OkJ (V.linkNd s) := ⟨i64_small (show (0 : Int) ≤ (s.size : Int) by omega) (show (s.size : Int) ≤ _ by omega), ⟨(by decide : (0 : Int) ≤ 0), (by decide : (0 : Int) ≤ 9223372036854775807)⟩, zero64, zero64, zero64, zero64, zero64, (by decide : (0 : Int) ≤ 511), (by decide : (511 : Int) < 4096), .inr (.inr rfl), h⟩
theorem ok_more {n : V.Nd} (h : OkJ n) : OkJ (V.moreLinks n) := ⟨h.size, h.blk, h.t0, h.t1, h.t2, h.uid, h.gid, h.m0, h.m1, h.kind, h.tgt⟩
theorem ok_ent {s : ByteArray} {i : Int} {n : V.Nd} (h : OkJ n) : OkJ (V.addEnt s i n) := ⟨h.size, h.blk, h.t0, h.t1, h.t2, h.uid, h.gid, h.m0, h.m1, h.kind, h.tgt⟩
theorem ok_over {i : Int} {n : V.Nd} (h : OkJ n) : OkJ (V.setOver i n) := ⟨h.size, h.blk, h.t0, h.t1, h.t2, h.uid, h.gid, h.m0, h.m1, h.kind, h.tgt⟩
theorem ok_built {M : List V.Nd} {i : Nat} {s : ByteArray} {n : V.Nd} {d : Int} (h : OkM M) (hn : OkJ n) : OkM (V.builtM M i s n d) :=
  ok_mod (ok_mod (ok_app h (ok_added hn)) fun _ q => ok_ent q) fun _ q => ok_more q
theorem max_bd {x : Int} (h : I64 x) : I64 (V.maxI x 0) := by
  obtain ⟨h0, h1⟩ := h
  unfold I64 V.maxI
  split <;> omega
theorem mode_bd (x : Int) : 0 ≤ x % 4096 ∧ x % 4096 < 4096 := by omega
theorem ok_set {c : V.Chg} {n : V.Nd} (h : I64 c.n) (ha : I64 c.a) (hb : I64 c.b) (q : OkJ n) : OkJ (V.setNd c n) := by
  unfold V.setNd
  repeat' split
  all_goals first
    | exact ⟨q.size, q.blk, q.t0, q.t1, q.t2, q.uid, q.gid, (mode_bd _).1, (mode_bd _).2, q.kind, q.tgt⟩
    | exact ⟨q.size, q.blk, q.t0, q.t1, q.t2, max_bd ha, max_bd hb, q.m0, q.m1, q.kind, q.tgt⟩
    | exact ⟨q.size, q.blk, q.t0, q.t1, q.t2, q.uid, q.gid, q.m0, q.m1, q.kind, q.tgt⟩
    | exact ⟨q.size, q.blk, h, q.t1, q.t2, q.uid, q.gid, q.m0, q.m1, q.kind, q.tgt⟩
    | exact ⟨q.size, q.blk, q.t0, h, q.t2, q.uid, q.gid, q.m0, q.m1, q.kind, q.tgt⟩
    | exact ⟨q.size, q.blk, q.t0, q.t1, h, q.uid, q.gid, q.m0, q.m1, q.kind, q.tgt⟩
theorem ok_do {M : List V.Nd} {c : V.Chg} (h : OkM M) (hn : I64 c.n) (ha : I64 c.a) (hb : I64 c.b) (ht : c.text.size ≤ 5000) : OkM (V.doM M c) := by
  unfold V.doM
  split
  · rename_i hw
    unfold V.carryM
    split
    · exact ok_built h (ok_dir (mode_bd _).1 (mode_bd _).2)
    · split
      · rename_i hk
        exact ok_built h (ok_file (mode_bd _).1 (mode_bd _).2 hn (blk_bd (file_size hw hk) hn.2))
      · split
        · exact ok_mod (ok_mod h fun _ q => ok_ent q) fun _ q => ok_more q
        · split
          · exact ok_built h (ok_link ht)
          · split
            · exact ok_mod (ok_app h (ok_added (ok_dir (mode_bd _).1 (mode_bd _).2))) fun _ q => ok_over q
            · exact ok_mod h fun n q => ok_set hn ha hb q
  · exact h
theorem runM_ok : ∀ (cs : List V.Chg) (M : List V.Nd), (∀ c ∈ cs, I64 c.n ∧ I64 c.a ∧ I64 c.b ∧ c.text.size ≤ 5000) → OkM M → OkM (V.runM cs M)
  | [], M, _, h => h
  | c :: r, M, hc, h => runM_ok r (V.doM M c) (fun x hx => hc x (List.mem_cons_of_mem _ hx)) (ok_do h (hc c List.mem_cons_self).1 (hc c List.mem_cons_self).2.1 (hc c List.mem_cons_self).2.2.1 (hc c List.mem_cons_self).2.2.2)
/-- What the facts of nodes ask of them. -/
structure GoodJ (M : List V.Nd) : Prop where
  pos : 0 < M.length
  few : M.length ≤ 300
  dev : V.DevInv M
  lnk : ∀ n ∈ M, 0 ≤ n.links ∧ n.links ≤ 402
  ok : OkM M
theorem few_text' {cs : List V.Chg} (h : V.FewL cs) (hl : cs.length ≤ 400) : ∀ c ∈ cs, c.text.size ≤ 5000 := fun c hc => by
  obtain ⟨k, hk, e⟩ := List.getElem_of_mem hc
  exact (h k c (by omega) (by rw [← e]; exact List.getElem?_eq_getElem hk)).2
theorem good_run (cs : List V.Chg) (hl : cs.length ≤ 400) (hf : V.FewL cs) (hn : ∀ c ∈ cs, I64 c.n ∧ I64 c.a ∧ I64 c.b) : GoodJ (V.runM cs V.newM) := by
  have hs := V.runM_small cs V.newM 0 V.new_small
  refine ⟨V.runM_pos cs V.newM (by decide), hs.1, V.runM_dev cs V.newM V.devInv_new, fun n hm => ?_, runM_ok cs V.newM (fun c hc => ⟨(hn c hc).1, (hn c hc).2.1, (hn c hc).2.2, few_text' hf hl c hc⟩) ok_new⟩
  have h3 := hs.2 n hm
  omega
theorem good_new : GoodJ V.newM := good_run [] (by simp) (fun k c hk hc => by simp at hc) (fun c hc => by cases hc)
theorem GoodJ.text {M : List V.Nd} (h : GoodJ M) (i : Int) : (V.linkT M i).size ≤ 5000 := by
  unfold V.linkT
  split
  · exact Nat.zero_le _
  · rename_i n hn
    obtain ⟨k, _, hk⟩ := V.atM_some hn
    have q := h.ok n (List.mem_of_getElem? hk)
    repeat' split
    · exact Nat.zero_le _
    · exact q.tgt
    · exact Nat.zero_le _
theorem GoodJ.num {M : List V.Nd} (h : GoodJ M) {i : Int} {x : V.Nd} (hx : V.atM M i = some x) : NumJ (V.nvAt M i) := by
  obtain ⟨k, _, hk⟩ := V.atM_some hx
  have hm := List.mem_of_getElem? hk
  have q := h.ok x hm
  have h1 := h.dev k x hk
  have h2 := V.cntD_bd x.dev (M.take k)
  have h3 := h.lnk x hm
  have h5 := h.few
  have h6 : (M.take k).length ≤ 300 := by rw [List.length_take]; omega
  have h7 := V.devL_len M 0
  have e : V.nvAt M i = V.nvOf x := by unfold V.nvAt; rw [hx]
  rw [e]
  exact ⟨q.size, ⟨(show -9223372036854775808 ≤ x.blocks by have := q.blk; omega), q.blk.2⟩, q.t0, q.t1, q.t2, q.uid, q.gid, i64_small (show 0 ≤ x.ino by omega) (show x.ino ≤ _ by omega), i64_small (show 0 ≤ x.dev by omega) (show x.dev ≤ _ by omega), i64_small (show 0 ≤ x.links by omega) (show x.links ≤ _ by omega), q.m0, q.m1, q.kind⟩
end Go.Proofs.YtigkdehaepenhaaGreatDoor.J

namespace Go.Proofs.YtigkdehaepenhaaGreatDoor.J
open Go.Proofs.YtigkdehaepenhaaGreatDoor.B
open Go.RowKit

/-- What a format tells of the node number i; nothing, if there is none. -/
def fmtA (M : List V.Nd) (qf : ByteArray → ByteArray) (i : Int) (nm f : ByteArray) : ByteArray := if V.nodeEr M i = 0 then txt (fmtJ (V.nvAt M i) nm.data.toList (quotB qf (V.nvAt M i).kind nm (V.linkT M i)).data.toList f.data.toList) else ⟨#[]⟩
theorem quot_size {M : List V.Nd} (hG : GoodJ M) {qf : ByteArray → ByteArray} (hq : ∀ s : ByteArray, s.size ≤ 60000 → (qf s).size ≤ 7 * s.size + 2) (i k : Int) {nm : ByteArray} (hn : nm.size ≤ 60000) : (quotB qf k nm (V.linkT M i)).size ≤ 900000 := by
  have h3 := hG.text i
  have h1 := hq nm hn
  have h2 := hq (V.linkT M i) (by omega)
  unfold quotB
  split
  · rw [ByteArray.size_append, ByteArray.size_append]
    have : arrow.size = 4 := rfl
    omega
  · omega
theorem format_any {M : List V.Nd} {p : Nat} (i : Int) (nm f : ByteArray) (qf : ByteArray → ByteArray) (v0 w : World) (hf : V.Has v0 p M w) (hG : GoodJ M) (ht : FTab w) (hq : (78 : UInt8) ∈ f.data.toList → QJ qf w) (hn : nm.size ≤ 60000) (hz : f.size ≤ 1000) (hqs : (quotB qf (V.nvAt M i).kind nm (V.linkT M i)).size ≤ 900000) :
    Calls Tryz.prog 9 #[.pointer (some ⟨p, 0, none⟩), .int .i64 i, .string nm, .string f] w fun e w' => e = .returned (.tuple #[.string (fmtA M qf i nm f), .int .i64 (V.nodeEr M i)]) ∧ Below w.heap.size w w' := by
  have hN : ∀ X : World, Below w.heap.size w X → Calls Tryz.prog 21 #[.pointer (some ⟨p, 0, none⟩), .int .i64 i] X fun e w' => e = .returned (.tuple #[P.nodeV (V.nvAt M i), .int .i64 (V.nodeEr M i)]) ∧ Below X.heap.size X w' := fun X hb => by
    have := V.has_nodeI i (hf.keep hb) hG.pos
    rw [V.nodeV_nv] at this
    exact this
  cases ha : V.atM M i with
  | none =>
    have he : V.nodeEr M i = 2 := by unfold V.nodeEr; rw [ha]
    rw [he] at hN
    have hA : fmtA M qf i nm f = ⟨#[]⟩ := by unfold fmtA; rw [if_neg (by rw [he]; decide)]
    rw [he, hA]
    exact formatNo_any _ i 2 _ nm f w (by decide) hN
  | some x =>
    have he : V.nodeEr M i = 0 := by unfold V.nodeEr; rw [ha]
    rw [he] at hN
    have hA : fmtA M qf i nm f = txt (fmtJ (V.nvAt M i) nm.data.toList (quotB qf (V.nvAt M i).kind nm (V.linkT M i)).data.toList f.data.toList) := by unfold fmtA; rw [if_pos he]
    rw [he, hA]
    refine formatOk_any _ i (V.linkE M i) _ nm _ f qf w hN (fun X hb => (V.has_link i (hf.keep hb) hG.pos).mono ?_) ht (hG.num ha) hq hn (Nat.le_trans (hG.text i) (by decide)) hz hqs
    rintro e w' ⟨rfl, rfl⟩
    exact ⟨rfl, Below.refl _ _⟩
theorem new_fmt (n : P.Nv) (h : n.mode = 493) (qt : By) : fmtJ n [114] qt [37, 110, 32, 37, 97] = [114, 32, 55, 53, 53] := by
  unfold fmtJ
  rw [S.fmtL_told _ _ (show oneJ n [114] qt 110 = some [114] from rfl), S.fmtL_plain _ _ (by decide), S.fmtL_told _ _ (show oneJ n [114] qt 97 = some (octL n.mode) from rfl), S.fmtL_nil, h]
  decide +kernel

set_option maxHeartbeats 2000000 in
theorem awoken_any (w : World) (ht : FTab w) : Calls Tryz.prog 6 #[] w fun e w' => e = .returned (.bool true) ∧ Below w.heap.size w w' := by
  have HT := Lib.hid ht
  have HN := Lib.hid (V.new_any w)
  have hA : fmtA V.newM id 0 ⟨#[114]⟩ ⟨#[37, 110, 32, 37, 97]⟩ = ⟨#[114, 32, 55, 53, 53]⟩ := by
    unfold fmtA
    rw [if_pos (by decide +kernel)]
    have := new_fmt (V.nvAt V.newM 0) (by decide +kernel) (quotB id (V.nvAt V.newM 0).kind ⟨#[114]⟩ (V.linkT V.newM 0)).data.toList
    show txt (fmtJ _ [114] _ [37, 110, 32, 37, 97]) = _
    rw [this]
    rfl
  have he : V.nodeEr V.newM 0 = 0 := by decide +kernel
  have HF := Lib.hid (fun (p : Nat) (X : World) (h : V.Has w p V.newM X) => format_any 0 ⟨#[114]⟩ ⟨#[37, 110, 32, 37, 97]⟩ id w X h good_new (HT.out.keep h.below) (fun q => absurd q (by decide +kernel)) (by decide) (by decide) (by decide +kernel))
  rw [hA, he] at HF
  clear ht hA he
  go_enter Tryz.func6, Tryz.ntmps6
  go_wp2_with (first
    | (go_at_call 17; refine HN.out.mono ?_; rintro e w2 ⟨p, rfl, H2⟩; have HH2 := Lib.hid H2; clear H2)
    | (go_at_call 9; refine (HF.out _ _ HH2.out).mono ?_; rintro e w3 ⟨rfl, hb⟩; have HB3 := Lib.hid (HH2.out.below.trans (hb.mono HH2.out.below.size)); clear hb))
  go_ret
  exact ⟨rfl, HB3.out⟩
end Go.Proofs.YtigkdehaepenhaaGreatDoor.J

namespace Go.Proofs.YtigkdehaepenhaaGreatDoor.J
open Go.Proofs.YtigkdehaepenhaaGreatDoor.B
open Go.RowKit

theorem get_data (f : ByteArray) (k : Nat) (h : k < f.size) : f.data.toList.drop k = (f[k]'h) :: f.data.toList.drop (k + 1) := List.drop_eq_getElem_cons (l := f.data.toList) (by simpa using h)
theorem one_byte (f : ByteArray) (k : Nat) (h : k < f.size) : f.extract k (k + 1) = txt [f[k]'h] := by
  have e1 := get_data f k h
  have e : (f.extract k (k + 1)).data.toList = [f[k]'h] := by
    rw [ByteArray.data_extract, Array.toList_extract, List.extract_eq_take_drop, e1, show k + 1 - k = 1 by omega]
    rfl
  rw [← txt_of (f.extract k (k + 1)), e]
theorem join_run (P : Program) (a b : By) (ha : a.length ≤ 1000000000) (hb : b.length ≤ 1000000000) (w : World) : (Op.stringOp .add (txt a) (txt b)).run P w = .ok (.string (txt (a ++ b))) w := by
  have := run_string_add_sum (P := P) (w := w) (txt a) (txt b) (by rw [txt_size, txt_size]; omega)
  rwa [txt_append] at this
def RefFmtRel (n : P.Nv) (nm qt : By) (f : ByteArray) (w B : World) (B0 : Nat) (v u : Value) (wr : World) : Prop :=
  ∃ (k : Nat) (out : By), k ≤ f.size ∧ u = .int .i64 (k : Int) ∧ v = .string (txt out) ∧ Hid (out ++ fmtJ n nm qt (f.data.toList.drop k) = fmtJ n nm qt f.data.toList) ∧ out.length ≤ 900000 * f.size ∧ Hid (Below B.heap.size B wr)

set_option maxRecDepth 100000 in
set_option maxHeartbeats 16000000 in
theorem refFormat_any (fn fl fc fd fa ff : Value) (id : Int) (n : P.Nv) (nm qt : ByteArray) (f : ByteArray) (w : World)
    (hone : (#[fn, fl, fc, fd, fa, ff] : Array Value).all (·.oneCell') = true)
    (HO : ∀ (c : UInt8) (X : World), Below w.heap.size w X → Calls Tryz.prog 24 #[.agg #[fn, fl, fc, fd, fa, ff], .int .i64 id, .string nm, .int .u8 (c.toNat : Int)] X fun e w' => e = .returned (oneV (oneJ n nm.data.toList qt.data.toList c)) ∧ Below X.heap.size X w')
    (hN : NumJ n) (hn : nm.size ≤ 60000) (hq : qt.size ≤ 900000) (hf : f.size ≤ 1000) :
    Calls Tryz.prog 11 #[.agg #[fn, fl, fc, fd, fa, ff], .int .i64 id, .string nm, .string f] w fun e w' => e = .returned (.string (txt (fmtJ n nm.data.toList qt.data.toList f.data.toList))) ∧ Below w.heap.size w w' := by
  have hl1 : nm.data.toList.length ≤ 900000 := by rw [size_list]; omega
  have hl2 : qt.data.toList.length ≤ 900000 := by rw [size_list]; omega
  have hlen := fmtJ_len hN hl1 hl2 (by omega) f.data.toList
  rw [size_list] at hlen
  have HLn := Lib.hid (fun c s h => oneJ_len hN hl1 hl2 (by omega) c s h)
  have HOn := Lib.hid HO
  have HOne := Lib.hid hone
  clear HO hN hone hl1 hl2 hn hq
  generalize nm.data.toList = nl at HOn HLn hlen ⊢
  generalize qt.data.toList = ql at HOn HLn hlen ⊢
  go_enter Tryz.func11, Tryz.ntmps11
  go_upto_region 1 with fail
  obtain ⟨B0, hB0⟩ : ∃ B0, w.heap.size = B0 := ⟨_, rfl⟩
  obtain ⟨w1, hw1⟩ : ∃ w1, w.alloc (.cells #[fn, fl, fc, fd, fa, ff] 32) = w1 := ⟨_, rfl⟩
  have HB1 := Lib.hid (show Below w.heap.size w w1 from by rw [← hw1]; exact (Below.refl _ _).alloc (Nat.le_refl _) _)
  have HX1 := Lib.hid (show w1.heap[B0]? = some (.cells #[fn, fl, fc, fd, fa, ff] 32) from by rw [← hw1, ← hB0]; exact heap_alloc_new _ _)
  rw [hw1, hB0]
  clear hw1 hB0
  go_wp2_with fail
  go_loopw [9, 10] (RefFmtRel n nl ql f w w1 B0) (fun _ v _ => f.size - (intOf v).toNat)
  case atStart => exact ⟨0, [], Nat.zero_le _, rfl, rfl, Lib.hid rfl, Nat.zero_le _, Lib.hid (Below.refl _ _)⟩
  case round =>
    obtain ⟨k, out, hk, rfl, rfl, HR, hol, HB⟩ := hrel
    by_cases hlt : k < f.size
    · have d0 : decide ((k : Int) < (f.size : Int)) = true := decide_eq_true (by omega)
      obtain ⟨c, hc⟩ : ∃ c, f[k]'hlt = c := ⟨_, rfl⟩
      have HD : Hid (f.data.toList.drop k = c :: f.data.toList.drop (k + 1)) := Lib.hid (by rw [get_data f k hlt, hc])
      have hpc := one_byte f k hlt
      rw [hc] at hpc
      obtain ⟨m, hm⟩ : ∃ m, c.toNat = m := ⟨_, rfl⟩
      have HNm : Hid ((c = 37) ↔ m = 37) := Lib.hid (by rw [← UInt8.toNat_inj, hm]; rfl)
      have HE : Hid (∀ j l, l ++ fmtJ n nl ql (f.data.toList.drop j) = fmtJ n nl ql (f.data.toList.drop k) → out ++ l ++ fmtJ n nl ql (f.data.toList.drop j) = fmtJ n nl ql f.data.toList ∧ (out ++ l).length ≤ 900000 * f.size) := Lib.hid (fun j l hl => by
        have e : out ++ l ++ fmtJ n nl ql (f.data.toList.drop j) = fmtJ n nl ql f.data.toList := by rw [List.append_assoc, hl, HR.out]
        have := congrArg List.length e
        rw [List.length_append] at this
        exact ⟨e, by omega⟩)
      obtain ⟨Y, hY⟩ : ∃ Y, Y = txt (out ++ [c]) := ⟨_, rfl⟩
      have hj1 : ∀ w : World, (Op.stringOp .add (txt out) (txt [c])).run Tryz.prog w = .ok (.string Y) w := fun w => by rw [hY]; exact join_run _ _ _ (by omega) (by simp) w
      have HY := Lib.hid hY
      clear hY HR
      have j0 : (0 : Int) ≤ (k : Int) := by omega
      have j1 : (k : Int) + 1 ≤ (f.size : Int) := by omega
      have j2 : (k : Int) ≤ (k : Int) + 1 := by omega
      by_cases h37 : m = 37
      · have hx : ((m : Int) == 37) = true := by rw [h37]; rfl
        by_cases hlast : k + 1 = f.size
        · have hq : ¬ (k : Int) < (f.size : Int) - 1 := by omega
          have HF := Lib.hid (HE.out (k + 1) [c] (by rw [HD.out, show f.data.toList.drop (k + 1) = [] from List.drop_eq_nil_of_le (by simp; omega)]; unfold fmtJ; rw [S.fmtL_nil, S.fmtL_last]; rfl))
          clear h37 HE hlast
          go_wp2_with fail
          go_roundw
          case rel => exact ⟨k + 1, out ++ [c], by omega, by go_num, by rw [HY.out], Lib.hid HF.out.1, HF.out.2, HB⟩
          case measure => simp [intOf]; omega
        · have hq : (k : Int) < (f.size : Int) - 1 := by omega
          have hin : k + 1 < f.size := by omega
          obtain ⟨c2, hc2⟩ : ∃ c2, f[k + 1]'hin = c2 := ⟨_, rfl⟩
          have HD2 : Hid (f.data.toList.drop (k + 1) = c2 :: f.data.toList.drop (k + 2)) := Lib.hid (by rw [get_data f (k + 1) hin, hc2])
          have HCo := Lib.hid (fun X (hX : Below w1.heap.size w1 X) => HOn.out c2 X (below_two HB1.out hX))
          have HXf := Lib.hid (show ∀ X, Below w1.heap.size w1 X → X.heap[B0]? = some (.cells #[fn, fl, fc, fd, fa, ff] 32) from fun X hX => (hX.block _ (heap_lt HX1.out)).trans HX1.out)
          have i1 : (k : Int) + 1 < (f.size : Int) := by omega
          have i2 : (0 : Int) ≤ (k : Int) + 1 := by omega
          have i3 : ((k : Int) + 1).toNat = k + 1 := by omega
          have iw : IntKind.i64.wrap ((k : Int) + 1) = (k : Int) + 1 := IntWalk.i64_in _ (by omega)
          cases ho : oneJ n nl ql c2 with
          | some s =>
            have hsl := HLn.out c2 s ho
            have HF := Lib.hid (HE.out (k + 2) s (by rw [HD.out, HD2.out, HNm.out.2 h37, fmtJ_pair, ho]; rfl))
            obtain ⟨Z, hZ⟩ : ∃ Z, Z = txt (out ++ s) := ⟨_, rfl⟩
            have hj2 : ∀ w : World, (Op.stringOp .add (txt out) (txt s)).run Tryz.prog w = .ok (.string Z) w := fun w => by rw [hZ]; exact join_run _ _ _ (by omega) (by omega) w
            have HZ := Lib.hid hZ
            rw [ho] at HCo
            unfold oneV at HCo
            dsimp only at HCo
            clear h37 HE hZ ho HD HD2 hpc hj1
            generalize hsX : txt s = sX at HCo hj2
            generalize txt out = oX at hj2 ⊢
            go_upto_region 7 with fail
-- TILL 7
            refine B.Till.region (z := 1000) (S := fun w' => Below wr.heap.size wr w') (by kernel_rfl) ((Below.refl _ _).drew) (fun hHeld => ?_)
            refine B.Till.takeA (i := 0) (oi := { dst := some 31, op := Op.load 32 (Operand.tmp 4), type := 32, pos := "ref.go:55", after := #[], guard := none }) (v := .agg #[fn, fl, fc, fd, fa, ff]) rfl (by kernel_rfl) (by kernel_rfl) (by kernel_rfl) (by kernel_rfl) (fun _ _ _ h => h) (yieldsIf_load_mid (by rfl) 32 (.tmp 4) rfl B0 0 rfl [fn, fl, fc, fd, fa, ff] _ (fun w0 hS0 => range_of (HXf.out _ (HB.out.trans (hS0.mono HB.out.size)))) Tryz.underlying32 rfl sizeFs6) (by assumption) ?_
            try simp only [Act.put, List.setIfInBounds_toArray, List.set_cons_zero, List.set_cons_succ]
            refine B.Till.takeA (i := 1) (oi := { dst := some 32, op := Op.move (Operand.tmp 1), type := 3, pos := "ref.go:55", after := #[], guard := none }) (v := .int .i64 id) rfl (by kernel_rfl) (by kernel_rfl) (by kernel_rfl) (by kernel_rfl) (fun _ _ _ h => h) (Or.inl ⟨by rfl, fun w0 hS0 => ?_⟩) (by assumption) ?_
            · go_simp
            try simp only [Act.put, List.setIfInBounds_toArray, List.set_cons_zero, List.set_cons_succ]
            refine B.Till.takeA (i := 2) (oi := { dst := some 33, op := Op.move (Operand.tmp 2), type := 9, pos := "ref.go:55", after := #[], guard := none }) (v := .string nm) rfl (by kernel_rfl) (by kernel_rfl) (by kernel_rfl) (by kernel_rfl) (fun _ _ _ h => h) (Or.inl ⟨by rfl, fun w0 hS0 => ?_⟩) (by assumption) ?_
            · go_simp
            try simp only [Act.put, List.setIfInBounds_toArray, List.set_cons_zero, List.set_cons_succ]
            refine B.Till.takeA (i := 3) (oi := { dst := some 34, op := Op.move (Operand.tmp 3), type := 9, pos := "ref.go:55", after := #[], guard := none }) (v := .string f) rfl (by kernel_rfl) (by kernel_rfl) (by kernel_rfl) (by kernel_rfl) (fun _ _ _ h => h) (Or.inl ⟨by rfl, fun w0 hS0 => ?_⟩) (by assumption) ?_
            · go_simp
            try simp only [Act.put, List.setIfInBounds_toArray, List.set_cons_zero, List.set_cons_succ]
            refine B.Till.takeA (i := 4) (oi := { dst := some 35, op := Op.move (Operand.tmp 10), type := 3, pos := "ref.go:55", after := #[], guard := none }) (v := .int .i64 (k : Int)) rfl (by kernel_rfl) (by kernel_rfl) (by kernel_rfl) (by kernel_rfl) (fun _ _ _ h => h) (Or.inl ⟨by rfl, fun w0 hS0 => ?_⟩) (by assumption) ?_
            · go_simp
            try simp only [Act.put, List.setIfInBounds_toArray, List.set_cons_zero, List.set_cons_succ]
            refine B.Till.takeA (i := 5) (oi := { dst := some 36, op := Op.binOp BinOp.add 3 (Operand.tmp 35) (Operand.const (Value.int IntKind.i64 1)) 3, type := 3, pos := "ref.go:55", after := #[{ on := 4, ground := Ground.data }], guard := none }) (v := .int .i64 ((k : Int) + 1)) rfl (by kernel_rfl) (by kernel_rfl) (by kernel_rfl) (by kernel_rfl) (fun _ _ _ h => h) (Or.inl ⟨by rfl, fun w0 hS0 => by first | (go_simp; done) | (go_simp; exact iw)⟩) (by assumption) ?_
            try simp only [Act.put, List.setIfInBounds_toArray, List.set_cons_zero, List.set_cons_succ]
            refine B.Till.takeA (i := 6) (oi := { dst := some 37, op := Op.index 9 (Operand.tmp 34) (Operand.tmp 36), type := 5, pos := "ref.go:55", after := #[{ on := 3, ground := Ground.data }, { on := 5, ground := Ground.data }], guard := none }) (v := .int .u8 (c2.toNat : Int)) rfl (by kernel_rfl) (by kernel_rfl) (by kernel_rfl) (by kernel_rfl) (fun _ _ _ h => h) (Or.inl ⟨by rfl, fun w0 hS0 => ?_⟩) (by assumption) ?_
            · go_simp
            try simp only [Act.put, List.setIfInBounds_toArray, List.set_cons_zero, List.set_cons_succ]
            refine B.Till.next (i := 7) (o := { dst := some 38, op := Op.call { callee := Callee.value (Operand.func 24), args := #[Operand.tmp 31, Operand.tmp 32, Operand.tmp 33, Operand.tmp 37], argTypes := #[32, 3, 9, 5] }, type := 69, pos := "ref.go:55", after := #[{ on := 0, ground := Ground.data }, { on := 1, ground := Ground.data }, { on := 2, ground := Ground.data }, { on := 6, ground := Ground.data }], guard := none }) (by kernel_rfl) rfl (fun K hK => ?_)
            go_simp
            refine (HCo.out _ (HB.out.trans (hHeld.mono HB.out.size))).mono ?_
            rintro e w4 ⟨rfl, hb4⟩
            have hH4 : Below wr.heap.size wr w4 := hHeld.trans hb4
            clear hb4
            have HB4 := Lib.hid (HB.out.trans (hH4.mono HB.out.size))
            go_wp2_with fail
            refine hK.out _ _ (fun _ => hH4) ?_
            clear hK K
            try simp only [Act.put, List.setIfInBounds_toArray, List.set_cons_zero, List.set_cons_succ]
            refine B.Till.takeA (i := 8) (oi := { dst := some 30, op := Op.move (Operand.tmp 38), type := 69, pos := "ref.go:55", after := #[{ on := 7, ground := Ground.data }], guard := none }) (v := .tuple #[.string sX, .bool true]) rfl (by kernel_rfl) (by kernel_rfl) (by kernel_rfl) (by kernel_rfl) (fun _ _ _ h => h) (Or.inl ⟨by rfl, fun w0 hS0 => ?_⟩) (by assumption) ?_
            · go_simp
            try simp only [Act.put, List.setIfInBounds_toArray, List.set_cons_zero, List.set_cons_succ]
            refine B.Till.takeA (i := 9) (oi := { dst := some 39, op := Op.extract (Operand.tmp 30) 0, type := 9, pos := "ref.go:55", after := #[{ on := 8, ground := Ground.data }], guard := none }) (v := .string sX) rfl (by kernel_rfl) (by kernel_rfl) (by kernel_rfl) (by kernel_rfl) (fun _ _ _ h => h) (Or.inl ⟨by rfl, fun w0 hS0 => ?_⟩) (by assumption) ?_
            · go_simp
            try simp only [Act.put, List.setIfInBounds_toArray, List.set_cons_zero, List.set_cons_succ]
            refine B.Till.takeA (i := 10) (oi := { dst := some 40, op := Op.extract (Operand.tmp 30) 1, type := 4, pos := "ref.go:55", after := #[{ on := 8, ground := Ground.data }, { on := 11, ground := Ground.gcOnly Departure.lateStores }], guard := none }) (v := .bool true) rfl (by kernel_rfl) (by kernel_rfl) (by kernel_rfl) (by kernel_rfl) (fun _ _ _ h => h) (Or.inl ⟨by rfl, fun w0 hS0 => ?_⟩) (by assumption) ?_
            · go_simp
            try simp only [Act.put, List.setIfInBounds_toArray, List.set_cons_zero, List.set_cons_succ]
            refine B.Till.takeA (i := 11) (oi := { dst := some 11, op := Op.assign (Operand.tmp 39), type := 9, pos := "ref.go:55", after := #[{ on := 9, ground := Ground.data }, { on := 7, ground := Ground.chain }, { on := 0, ground := Ground.phase }, { on := 1, ground := Ground.phase }, { on := 2, ground := Ground.phase }, { on := 3, ground := Ground.phase }, { on := 4, ground := Ground.phase }, { on := 5, ground := Ground.phase }, { on := 6, ground := Ground.phase }, { on := 7, ground := Ground.phase }, { on := 8, ground := Ground.phase }, { on := 9, ground := Ground.phase }, { on := 10, ground := Ground.textOnly Departure.lateStores }], guard := none }) (v := .string sX) rfl (by kernel_rfl) (by kernel_rfl) (by kernel_rfl) (by kernel_rfl) (fun _ _ _ h => h) (Or.inl ⟨by rfl, fun w0 hS0 => ?_⟩) (by assumption) ?_
            · go_simp
            try simp only [Act.put, List.setIfInBounds_toArray, List.set_cons_zero, List.set_cons_succ]
            refine B.Till.takeA (i := 12) (oi := { dst := some 12, op := Op.assign (Operand.tmp 40), type := 4, pos := "ref.go:55", after := #[{ on := 10, ground := Ground.data }, { on := 11, ground := Ground.chain }, { on := 0, ground := Ground.phase }, { on := 1, ground := Ground.phase }, { on := 2, ground := Ground.phase }, { on := 3, ground := Ground.phase }, { on := 4, ground := Ground.phase }, { on := 5, ground := Ground.phase }, { on := 6, ground := Ground.phase }, { on := 7, ground := Ground.phase }, { on := 8, ground := Ground.phase }, { on := 9, ground := Ground.phase }, { on := 10, ground := Ground.phase }, { on := 11, ground := Ground.phase }], guard := none }) (v := .bool true) rfl (by kernel_rfl) (by kernel_rfl) (by kernel_rfl) (by kernel_rfl) (fun _ _ _ h => h) (Or.inl ⟨by rfl, fun w0 hS0 => ?_⟩) (by assumption) ?_
            · go_simp
            try simp only [Act.put, List.setIfInBounds_toArray, List.set_cons_zero, List.set_cons_succ]
            refine B.Till.done (by kernel_rfl) ?_
-- TILL 7 END
            go_wp2_with fail
            go_roundw
            case rel => exact ⟨k + 2, out ++ s, by omega, by go_num, by rw [HZ.out], Lib.hid HF.out.1, HF.out.2, HB4⟩
            case measure => simp [intOf]; omega
          | none =>
            have HF := Lib.hid (HE.out (k + 1) [c] (by rw [HD.out, HD2.out, HNm.out.2 h37]; unfold fmtJ; rw [S.fmtL_none _ _ ho]; rfl))
            rw [ho] at HCo
            unfold oneV at HCo
            dsimp only at HCo
            clear h37 HE ho HD HD2
            generalize hsX : (⟨#[]⟩ : ByteArray) = sX at HCo
            go_upto_region 7 with fail
-- TILL 77
            refine B.Till.region (z := 1000) (S := fun w' => Below wr.heap.size wr w') (by kernel_rfl) ((Below.refl _ _).drew) (fun hHeld => ?_)
            refine B.Till.takeA (i := 0) (oi := { dst := some 31, op := Op.load 32 (Operand.tmp 4), type := 32, pos := "ref.go:55", after := #[], guard := none }) (v := .agg #[fn, fl, fc, fd, fa, ff]) rfl (by kernel_rfl) (by kernel_rfl) (by kernel_rfl) (by kernel_rfl) (fun _ _ _ h => h) (yieldsIf_load_mid (by rfl) 32 (.tmp 4) rfl B0 0 rfl [fn, fl, fc, fd, fa, ff] _ (fun w0 hS0 => range_of (HXf.out _ (HB.out.trans (hS0.mono HB.out.size)))) Tryz.underlying32 rfl sizeFs6) (by assumption) ?_
            try simp only [Act.put, List.setIfInBounds_toArray, List.set_cons_zero, List.set_cons_succ]
            refine B.Till.takeA (i := 1) (oi := { dst := some 32, op := Op.move (Operand.tmp 1), type := 3, pos := "ref.go:55", after := #[], guard := none }) (v := .int .i64 id) rfl (by kernel_rfl) (by kernel_rfl) (by kernel_rfl) (by kernel_rfl) (fun _ _ _ h => h) (Or.inl ⟨by rfl, fun w0 hS0 => ?_⟩) (by assumption) ?_
            · go_simp
            try simp only [Act.put, List.setIfInBounds_toArray, List.set_cons_zero, List.set_cons_succ]
            refine B.Till.takeA (i := 2) (oi := { dst := some 33, op := Op.move (Operand.tmp 2), type := 9, pos := "ref.go:55", after := #[], guard := none }) (v := .string nm) rfl (by kernel_rfl) (by kernel_rfl) (by kernel_rfl) (by kernel_rfl) (fun _ _ _ h => h) (Or.inl ⟨by rfl, fun w0 hS0 => ?_⟩) (by assumption) ?_
            · go_simp
            try simp only [Act.put, List.setIfInBounds_toArray, List.set_cons_zero, List.set_cons_succ]
            refine B.Till.takeA (i := 3) (oi := { dst := some 34, op := Op.move (Operand.tmp 3), type := 9, pos := "ref.go:55", after := #[], guard := none }) (v := .string f) rfl (by kernel_rfl) (by kernel_rfl) (by kernel_rfl) (by kernel_rfl) (fun _ _ _ h => h) (Or.inl ⟨by rfl, fun w0 hS0 => ?_⟩) (by assumption) ?_
            · go_simp
            try simp only [Act.put, List.setIfInBounds_toArray, List.set_cons_zero, List.set_cons_succ]
            refine B.Till.takeA (i := 4) (oi := { dst := some 35, op := Op.move (Operand.tmp 10), type := 3, pos := "ref.go:55", after := #[], guard := none }) (v := .int .i64 (k : Int)) rfl (by kernel_rfl) (by kernel_rfl) (by kernel_rfl) (by kernel_rfl) (fun _ _ _ h => h) (Or.inl ⟨by rfl, fun w0 hS0 => ?_⟩) (by assumption) ?_
            · go_simp
            try simp only [Act.put, List.setIfInBounds_toArray, List.set_cons_zero, List.set_cons_succ]
            refine B.Till.takeA (i := 5) (oi := { dst := some 36, op := Op.binOp BinOp.add 3 (Operand.tmp 35) (Operand.const (Value.int IntKind.i64 1)) 3, type := 3, pos := "ref.go:55", after := #[{ on := 4, ground := Ground.data }], guard := none }) (v := .int .i64 ((k : Int) + 1)) rfl (by kernel_rfl) (by kernel_rfl) (by kernel_rfl) (by kernel_rfl) (fun _ _ _ h => h) (Or.inl ⟨by rfl, fun w0 hS0 => by first | (go_simp; done) | (go_simp; exact iw)⟩) (by assumption) ?_
            try simp only [Act.put, List.setIfInBounds_toArray, List.set_cons_zero, List.set_cons_succ]
            refine B.Till.takeA (i := 6) (oi := { dst := some 37, op := Op.index 9 (Operand.tmp 34) (Operand.tmp 36), type := 5, pos := "ref.go:55", after := #[{ on := 3, ground := Ground.data }, { on := 5, ground := Ground.data }], guard := none }) (v := .int .u8 (c2.toNat : Int)) rfl (by kernel_rfl) (by kernel_rfl) (by kernel_rfl) (by kernel_rfl) (fun _ _ _ h => h) (Or.inl ⟨by rfl, fun w0 hS0 => ?_⟩) (by assumption) ?_
            · go_simp
            try simp only [Act.put, List.setIfInBounds_toArray, List.set_cons_zero, List.set_cons_succ]
            refine B.Till.next (i := 7) (o := { dst := some 38, op := Op.call { callee := Callee.value (Operand.func 24), args := #[Operand.tmp 31, Operand.tmp 32, Operand.tmp 33, Operand.tmp 37], argTypes := #[32, 3, 9, 5] }, type := 69, pos := "ref.go:55", after := #[{ on := 0, ground := Ground.data }, { on := 1, ground := Ground.data }, { on := 2, ground := Ground.data }, { on := 6, ground := Ground.data }], guard := none }) (by kernel_rfl) rfl (fun K hK => ?_)
            go_simp
            refine (HCo.out _ (HB.out.trans (hHeld.mono HB.out.size))).mono ?_
            rintro e w4 ⟨rfl, hb4⟩
            have hH4 : Below wr.heap.size wr w4 := hHeld.trans hb4
            clear hb4
            have HB4 := Lib.hid (HB.out.trans (hH4.mono HB.out.size))
            go_wp2_with fail
            refine hK.out _ _ (fun _ => hH4) ?_
            clear hK K
            try simp only [Act.put, List.setIfInBounds_toArray, List.set_cons_zero, List.set_cons_succ]
            refine B.Till.takeA (i := 8) (oi := { dst := some 30, op := Op.move (Operand.tmp 38), type := 69, pos := "ref.go:55", after := #[{ on := 7, ground := Ground.data }], guard := none }) (v := .tuple #[.string sX, .bool false]) rfl (by kernel_rfl) (by kernel_rfl) (by kernel_rfl) (by kernel_rfl) (fun _ _ _ h => h) (Or.inl ⟨by rfl, fun w0 hS0 => ?_⟩) (by assumption) ?_
            · go_simp
            try simp only [Act.put, List.setIfInBounds_toArray, List.set_cons_zero, List.set_cons_succ]
            refine B.Till.takeA (i := 9) (oi := { dst := some 39, op := Op.extract (Operand.tmp 30) 0, type := 9, pos := "ref.go:55", after := #[{ on := 8, ground := Ground.data }], guard := none }) (v := .string sX) rfl (by kernel_rfl) (by kernel_rfl) (by kernel_rfl) (by kernel_rfl) (fun _ _ _ h => h) (Or.inl ⟨by rfl, fun w0 hS0 => ?_⟩) (by assumption) ?_
            · go_simp
            try simp only [Act.put, List.setIfInBounds_toArray, List.set_cons_zero, List.set_cons_succ]
            refine B.Till.takeA (i := 10) (oi := { dst := some 40, op := Op.extract (Operand.tmp 30) 1, type := 4, pos := "ref.go:55", after := #[{ on := 8, ground := Ground.data }, { on := 11, ground := Ground.gcOnly Departure.lateStores }], guard := none }) (v := .bool false) rfl (by kernel_rfl) (by kernel_rfl) (by kernel_rfl) (by kernel_rfl) (fun _ _ _ h => h) (Or.inl ⟨by rfl, fun w0 hS0 => ?_⟩) (by assumption) ?_
            · go_simp
            try simp only [Act.put, List.setIfInBounds_toArray, List.set_cons_zero, List.set_cons_succ]
            refine B.Till.takeA (i := 11) (oi := { dst := some 11, op := Op.assign (Operand.tmp 39), type := 9, pos := "ref.go:55", after := #[{ on := 9, ground := Ground.data }, { on := 7, ground := Ground.chain }, { on := 0, ground := Ground.phase }, { on := 1, ground := Ground.phase }, { on := 2, ground := Ground.phase }, { on := 3, ground := Ground.phase }, { on := 4, ground := Ground.phase }, { on := 5, ground := Ground.phase }, { on := 6, ground := Ground.phase }, { on := 7, ground := Ground.phase }, { on := 8, ground := Ground.phase }, { on := 9, ground := Ground.phase }, { on := 10, ground := Ground.textOnly Departure.lateStores }], guard := none }) (v := .string sX) rfl (by kernel_rfl) (by kernel_rfl) (by kernel_rfl) (by kernel_rfl) (fun _ _ _ h => h) (Or.inl ⟨by rfl, fun w0 hS0 => ?_⟩) (by assumption) ?_
            · go_simp
            try simp only [Act.put, List.setIfInBounds_toArray, List.set_cons_zero, List.set_cons_succ]
            refine B.Till.takeA (i := 12) (oi := { dst := some 12, op := Op.assign (Operand.tmp 40), type := 4, pos := "ref.go:55", after := #[{ on := 10, ground := Ground.data }, { on := 11, ground := Ground.chain }, { on := 0, ground := Ground.phase }, { on := 1, ground := Ground.phase }, { on := 2, ground := Ground.phase }, { on := 3, ground := Ground.phase }, { on := 4, ground := Ground.phase }, { on := 5, ground := Ground.phase }, { on := 6, ground := Ground.phase }, { on := 7, ground := Ground.phase }, { on := 8, ground := Ground.phase }, { on := 9, ground := Ground.phase }, { on := 10, ground := Ground.phase }, { on := 11, ground := Ground.phase }], guard := none }) (v := .bool false) rfl (by kernel_rfl) (by kernel_rfl) (by kernel_rfl) (by kernel_rfl) (fun _ _ _ h => h) (Or.inl ⟨by rfl, fun w0 hS0 => ?_⟩) (by assumption) ?_
            · go_simp
            try simp only [Act.put, List.setIfInBounds_toArray, List.set_cons_zero, List.set_cons_succ]
            refine B.Till.done (by kernel_rfl) ?_
-- TILL 77 END
            go_wp2_with fail
            go_roundw
            case rel => exact ⟨k + 1, out ++ [c], by omega, by go_num, by rw [HY.out], Lib.hid HF.out.1, HF.out.2, HB4⟩
            case measure => simp [intOf]; omega
      · have hx : ((m : Int) == 37) = false := beq_eq_false_iff_ne.2 (by omega)
        have HF := Lib.hid (HE.out (k + 1) [c] (by rw [HD.out]; unfold fmtJ; rw [S.fmtL_plain _ _ (fun e => h37 (HNm.out.1 e))]; rfl))
        clear h37 HE
        go_wp2_with fail
        go_roundw
        case rel => exact ⟨k + 1, out ++ [c], by omega, by go_num, by rw [HY.out], Lib.hid HF.out.1, HF.out.2, HB⟩
        case measure => simp [intOf]; omega
    · have hkk : k = f.size := by omega
      have d0 : decide ((k : Int) < (f.size : Int)) = false := decide_eq_false (by omega)
      have HBe := Lib.hid (below_two HB1.out HB.out)
      have HE := Lib.hid (show txt out = txt (fmtJ n nl ql f.data.toList) from by
        rw [← HR.out, hkk, List.drop_eq_nil_of_le (by simp)]
        unfold fmtJ
        rw [S.fmtL_nil, List.append_nil])
      go_wp2_with fail
      go_ret
      exact ⟨by rw [← HE.out]; rfl, HBe.out⟩
end Go.Proofs.YtigkdehaepenhaaGreatDoor.J

namespace Go.Proofs.YtigkdehaepenhaaGreatDoor.J
open Go.Proofs.YtigkdehaepenhaaGreatDoor.B
open Go.RowKit

theorem node_cs {M : List V.Nd} {j : Nat} {x : V.Nd} (hx : V.atM M (j : Int) = some x) {l : Int} (hl : x.links = l) : Value.agg (V.nodeCs x l).toArray = P.nodeV (V.nvAt M (j : Int)) := by
  have h := V.nodeV_nv M (j : Int)
  unfold V.nodeV' at h
  rw [hx] at h
  rw [← hl]
  exact h
theorem refFmt_twin {w0 : World} {p : Nat} {M : List V.Nd} {L : List V.It} {r : V.Rv} {w : World} (T : V.Twin w0 p M L r w) (hI : V.LInv M) (hG : GoodJ M) (hL : L.length ≤ 1000000) {x : V.Nd} {id : Int} (hx : V.atM M id = some x) (nm f : ByteArray) (hn : nm.size ≤ 60000) (hf : f.size ≤ 1000) :
    Calls Tryz.prog 11 #[V.rvV r, .int .i64 id, .string nm, .string f] w fun e w' => e = .returned (.string (fmtA M JQ.quoB id nm f)) ∧ Below w.heap.size w w' := by
  have hM : M.length ≤ 1000000 := by have := hG.few; omega
  obtain ⟨j, rfl, hj⟩ := V.atM_some hx
  have he : V.nodeEr M (j : Int) = 0 := by unfold V.nodeEr; rw [hx]
  have hA : fmtA M JQ.quoB (j : Int) nm f = txt (fmtJ (V.nvAt M (j : Int)) nm.data.toList (quotB JQ.quoB (V.nvAt M (j : Int)).kind nm (V.linkT M (j : Int))).data.toList f.data.toList) := by unfold fmtA; rw [if_pos he]
  rw [hA]
  refine refFormat_any r.n r.l r.c r.d r.a r.f _ (V.nvAt M (j : Int)) nm (quotB JQ.quoB (V.nvAt M (j : Int)).kind nm (V.linkT M (j : Int))) f w (V.rs_one T.rs) (fun c X hb => ?_) (hG.num hx) hn (quot_size hG (fun s _ => JQ.quoB_size s) _ _ hn) hf
  have hrest : Calls Tryz.prog 24 #[.agg #[r.n, r.l, r.c, r.d, r.a, r.f], .int .i64 (j : Int), .string nm, .int .u8 (c.toNat : Int)] X fun e w' => e = .returned (oneV (oneJ (V.nvAt M (j : Int)) nm.data.toList (quotB JQ.quoB (V.nvAt M (j : Int)).kind nm (V.linkT M (j : Int))).data.toList c)) ∧ Below X.heap.size X w' := by
    refine refOne_any r.n r.l r.c r.d r.a r.f (j : Int) (V.linkE M (j : Int)) (V.nvAt M (j : Int)) nm (V.linkT M (j : Int)) c JQ.quoB X (V.rs_one T.rs) (fun Y hY => ?_) (fun Y hY => V.rlink_any M L r (j : Int) Y (T.rs.keep (below_two hb hY)) T.rel hG.pos hM hL) (fun s Y hs => Q.refQuote_any 1 s Y (by omega)) (fun s _ => JQ.quoB_size s) (hG.num hx) hn (Nat.le_trans (hG.text _) (by decide))
    have q := V.rnode_any M L r j x Y (T.rs.keep (below_two hb hY)) T.rel hj hM hL
    rw [node_cs hx (V.links_counted hI T.rel hj)] at q
    exact q
  exact hrest
set_option maxRecDepth 100000 in
set_option maxHeartbeats 16000000 in
theorem formats_any (cs : List V.Chg) (a : Option Addr) (cap : Nat) (id : Int) (nm f : ByteArray) (w : World) (H : V.IsChgs w a cs) (ht : FTab w) (hq : QJ JQ.quoB w) (hl : cs.length ≤ 9223372036854775807) (hw : ∀ c ∈ cs, V.WideC c) (hs0 : nm.size ≤ 9223372036854775807) (hs1 : f.size ≤ 9223372036854775807) :
    Calls Tryz.prog 4 #[.slice a cs.length cap, .int .i64 id, .agg #[.string nm, .string f]] w fun e w' => e = .returned (.bool true) ∧ Below w.heap.size w w' := by
  have HFw := Lib.hid (fun X (hb : Below w.heap.size w X) => V.few_any cs a cap 40 X (H.keep hb) hl (fun c hc => ⟨(hw c hc).name, (hw c hc).text⟩))
  have HMd := Lib.hid (fun (X : World) (hb : Below w.heap.size w X) (h4 : cs.length ≤ 400) (hf : V.FewL cs) => V.made_any cs a cap X (H.keep hb) h4 hf (fun c hc => ⟨(hw c hc).lo, (hw c hc).hi⟩))
  have HAw := Lib.hid (fun (X : World) (hb : Below w.heap.size w X) => awoken_any X (ht.keep hb))
  have HGd := Lib.hid (fun (h4 : cs.length ≤ 400) (hf : V.FewL cs) => good_run cs h4 hf (fun c hc => ⟨⟨(hw c hc).lo, (hw c hc).hi⟩, (hw c hc).a, (hw c hc).b⟩))
  have HLi := Lib.hid (V.runM_linv cs V.newM V.linv_new)
  have HFm := Lib.hid (fun (M : List V.Nd) (hG : GoodJ M) (p : Nat) (v0 : World) (hx : f.size ≤ 1000) (hn : nm.size ≤ 60000) (X : World) (hb : Below w.heap.size w X) (hf : V.Has v0 p M X) => format_any id nm f JQ.quoB v0 X hf hG (ht.keep hb) (fun _ => hq.keep hb) hn hx (quot_size hG hq.size id _ hn))
  clear H ht hq hw
  go_enter Tryz.func4, Tryz.ntmps4
  go_upto_region 1 with fail
  obtain ⟨B0, hB0⟩ : ∃ B0, w.heap.size = B0 := ⟨_, rfl⟩
  obtain ⟨w1, hw1⟩ : ∃ w1, w.alloc (.cells #[.string nm, .string f] 39) = w1 := ⟨_, rfl⟩
  have HB1 := Lib.hid (show Below w.heap.size w w1 from by rw [← hw1]; exact (Below.refl _ _).alloc (Nat.le_refl _) _)
  have HX1 := Lib.hid (show w1.heap[B0]? = some (.cells #[.string nm, .string f] 39) from by rw [← hw1, ← hB0]; exact heap_alloc_new _ _)
  rw [hw1, hB0]
  clear hw1 hB0
  have HKp := Lib.hid (show ∀ X, Below w1.heap.size w1 X → X.cell? ⟨B0, 0, none⟩ = some (.string nm) ∧ X.cell? ⟨B0, 1, none⟩ = some (.string f) from fun X hX => by
    have q := (hX.block _ (heap_lt HX1.out)).trans HX1.out
    refine ⟨?_, ?_⟩ <;> (rw [cell_of_row _ _ _ _ _ _ q]; rfl))
  clear HX1
  go_wp2_with fail
  refine (HAw.out _ HB1.out).mono ?_
  rintro e w2 ⟨rfl, hb2⟩
  have HB2 := Lib.hid hb2
  clear hb2
  go_wp2_with fail
  refine (HFw.out _ (below_two HB1.out HB2.out)).mono ?_
  rintro e w3 ⟨b, rfl, hb, hw3⟩
  have HBb := Lib.hid hb
  subst hw3
  have HB3 := Lib.hid HB2.out
  clear hb HB2 HFw
  obtain ⟨k0, k1⟩ := HKp.out _ HB3.out
  cases b with
  | false =>
    go_wp2_with fail
    refine (HAw.out _ (below_two HB1.out HB3.out)).mono ?_
    rintro e w4 ⟨rfl, hb4⟩
    have HB4 := Lib.hid (below_two (below_two HB1.out HB3.out) hb4)
    clear hb4
    go_wp2_with fail
    go_ret
    exact ⟨rfl, HB4.out⟩
  | true =>
    obtain ⟨hfl, hln⟩ := HBb.out.1 rfl
    have HFl := Lib.hid hfl
    clear hfl HBb
    have hl6 : cs.length ≤ 40 := by omega
    by_cases g0 : 100 < nm.size
    · have d0 : decide ((100 : Int) < (nm.size : Int)) = true := decide_eq_true (by omega)
      go_wp2_with fail
      refine (HAw.out _ (below_two HB1.out HB3.out)).mono ?_
      rintro e w4 ⟨rfl, hb4⟩
      have HB4 := Lib.hid (below_two (below_two HB1.out HB3.out) hb4)
      clear hb4
      go_wp2_with fail
      go_ret
      exact ⟨rfl, HB4.out⟩
    · have d0 : decide ((100 : Int) < (nm.size : Int)) = false := decide_eq_false (by omega)
      by_cases g1 : 100 < f.size
      · have d1 : decide ((100 : Int) < (f.size : Int)) = true := decide_eq_true (by omega)
        go_wp2_with fail
        refine (HAw.out _ (below_two HB1.out HB3.out)).mono ?_
        rintro e w4 ⟨rfl, hb4⟩
        have HB4 := Lib.hid (below_two (below_two HB1.out HB3.out) hb4)
        clear hb4
        go_wp2_with fail
        go_ret
        exact ⟨rfl, HB4.out⟩
      · have d1 : decide ((100 : Int) < (f.size : Int)) = false := decide_eq_false (by omega)
        have HG := Lib.hid (HGd.out (by omega) HFl.out)
        have HMdd := Lib.hid (fun (X : World) (hb : Below w.heap.size w X) => HMd.out X hb (by omega) HFl.out)
        clear HMd HGd HFl HAw
        generalize V.runM cs V.newM = M at HMdd HG HLi
        go_upto_region 3 with fail
        clear k0 k1 d0 d1
        have HM := Lib.hid (HMdd.out w3 (below_two HB1.out HB3.out))
        clear HMdd
        go_wp2_with fail
        refine HM.out.mono ?_
        rintro e w6 ⟨p, r, L, rfl, T6, hL⟩
        have HT6 := Lib.hid T6
        have HN6 := Lib.hid (V.rs_one T6.rs)
        clear T6 HM
        unfold V.rvV
        go_upto_region 4 with (refine wpList_store_row rfl 32 (.tmp 8) (.tmp 35) rfl w6.heap.size #[r.n, r.l, r.c, r.d, r.a, r.f] rfl rfl 32 V.nilsR (heap_alloc_new _ _) V.sizeRef rfl HN6.out ?_; rw [World.setRow_alloc_new])
        have HA7 := Lib.hid (show Below w6.heap.size w6 (w6.alloc (.cells #[r.n, r.l, r.c, r.d, r.a, r.f] 32)) from (Below.refl _ _).alloc (Nat.le_refl _) _)
        have HX7 := Lib.hid (heap_alloc_new w6 (.cells #[r.n, r.l, r.c, r.d, r.a, r.f] 32))
        generalize w6.alloc (.cells #[r.n, r.l, r.c, r.d, r.a, r.f] 32) = w7 at HA7 HX7 ⊢
        have HT7 := Lib.hid (HT6.out.keep HA7.out)
        have HB7 := Lib.hid (show Below w1.heap.size w1 w7 from HB3.out.trans ((HT6.out.fs.below.trans (HA7.out.mono HT6.out.fs.below.size)).mono HB3.out.size))
        generalize w6.heap.size = B6 at HX7 ⊢
        clear HT6 HA7 HB3
        have HCs := Lib.hid (show ∀ X, Below w7.heap.size w7 X → X.cell? ⟨B6, 0, none⟩ = some r.n ∧ X.cell? ⟨B6, 1, none⟩ = some r.l ∧ X.cell? ⟨B6, 2, none⟩ = some r.c ∧ X.cell? ⟨B6, 3, none⟩ = some r.d ∧ X.cell? ⟨B6, 4, none⟩ = some r.a ∧ X.cell? ⟨B6, 5, none⟩ = some r.f from fun X hX => by
          have q := V.box_keep2 HX7.out hX
          refine ⟨?_, ?_, ?_, ?_, ?_, ?_⟩ <;> (rw [cell_of_row _ _ _ _ _ _ q]; rfl))
        have HRF := Lib.hid (fun (X : World) (hb : Below w7.heap.size w7 X) (x : V.Nd) (hx : V.atM M id = some x) => refFmt_twin (HT7.out.keep hb) HLi.out HG.out (by omega) hx nm f (by omega) (by omega))
        have HHs := Lib.hid (fun (X : World) (hb : Below w7.heap.size w7 X) => V.refHas_any M L r id X (HT7.out.rs.keep hb))
        have HFa := Lib.hid (HFm.out M HG.out p w3 (by omega) (by omega) w7 (below_two HB1.out HB7.out) HT7.out.fs)
        have HKw := Lib.hid (fun (X : World) (hb : Below w7.heap.size w7 X) => HKp.out X (HB7.out.trans (hb.mono HB7.out.size)))
        have HBw := Lib.hid (fun (X : World) (hb : Below w7.heap.size w7 X) => below_two HB1.out (HB7.out.trans (hb.mono HB7.out.size)))
        clear HFm HKp HLi HG HB1 HB7 HX7 HN6
        unfold V.rvV at HRF HHs
        obtain ⟨rn, rl, rc, rd, ra, rf⟩ := r
        dsimp only at HCs HRF HHs ⊢
        obtain ⟨q0, q1⟩ := HKw.out _ (Below.refl _ _)
        go_upto_region 5 with (go_at_call 9; refine HFa.out.mono ?_; rintro e w8 ⟨rfl, hb8⟩; have HB8 := Lib.hid hb8; clear hb8)
        clear q0 q1 HFa HT7
        obtain ⟨c0, c1, c2, c3, c4, c5⟩ := HCs.out _ HB8.out
        cases hx : V.atM M id with
        | none =>
          have hdc := V.atM_none_dec hx
          rw [hdc] at HHs
          have he : V.nodeEr M id = 2 := by unfold V.nodeEr; rw [hx]
          have hA : fmtA M JQ.quoB id nm f = ⟨#[]⟩ := by unfold fmtA; rw [if_neg (by rw [he]; decide)]
          rw [he, hA]
          clear HRF hx hdc he hA
          go_wp2_with (go_at_call 10; refine (HHs.out _ HB8.out).mono ?_; rintro e w9 ⟨rfl, hb9⟩; have HB9 := Lib.hid (below_two HB8.out hb9); clear hb9)
          go_ret
          exact ⟨rfl, HBw.out _ HB9.out⟩
        | some x =>
          have hdc := V.atM_some_dec hx
          rw [hdc] at HHs
          have he : V.nodeEr M id = 0 := by unfold V.nodeEr; rw [hx]
          have HRf := Lib.hid (fun (X : World) (hb : Below w7.heap.size w7 X) => HRF.out X hb x hx)
          rw [he]
          clear HRF hx hdc he
          generalize fmtA M JQ.quoB id nm f = XA at HRf ⊢
          have deq : (XA.toList == XA.toList) = true := beq_self_eq_true _
          go_upto_region 7 with (go_at_call 10; refine (HHs.out _ HB8.out).mono ?_; rintro e w9 ⟨rfl, hb9⟩; have HB9 := Lib.hid (below_two HB8.out hb9); clear hb9)
          clear c0 c1 c2 c3 c4 c5 HHs
          obtain ⟨c0, c1, c2, c3, c4, c5⟩ := HCs.out _ HB9.out
          obtain ⟨q0, q1⟩ := HKw.out _ HB9.out
          go_wp2_with (go_at_call 11; refine (HRf.out _ HB9.out).mono ?_; rintro e wA ⟨rfl, hbA⟩; have HBA := Lib.hid (below_two HB9.out hbA); clear hbA)
          go_ret
          exact ⟨rfl, HBw.out _ HBA.out⟩
end Go.Proofs.YtigkdehaepenhaaGreatDoor.J
