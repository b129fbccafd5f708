/-
  That the law VfsBuilds returns true. Conditions: what came in lies in memory.
-/
import Derived.Test.YtemjlamgnkjejaaVAlike
set_option linter.unusedVariables false
namespace Go.Proofs.Ytemjlamgnkjejaa
open Go.RowKit Go.BigFrame

def BuildsRel (cs : List Chg) (w : World) (p B5 : Nat) (v : Value) (wr : World) : Prop := ∃ (k : Nat) (L : List It) (r : Rv), k ≤ cs.length ∧ v = .int .i64 (k : Int) ∧ L.length ≤ k ∧ Hid (Twin w p (runM (cs.take k) newM) L r wr) ∧
  wr.heap[B5]? = some (.cells #[r.n, r.l, r.c, r.d, r.a, r.f] 37 (0, 0))

set_option maxRecDepth 100000 in
set_option maxHeartbeats 16000000 in
theorem builds_any (cs : List Chg) (a : Option Addr) (cap : Nat) (w : World) (H : IsChgs w a cs) (hl : cs.length ≤ 9223372036854775807) (hz : ∀ c ∈ cs, (c.name.size ≤ 9223372036854775807 ∧ c.text.size ≤ 9223372036854775807) ∧ -9223372036854775808 ≤ c.n ∧ c.n ≤ 9223372036854775807) :
    Calls Try.prog 4 #[.slice a cs.length cap] w fun e w' => e = .returned (.bool true) ∧ Below w.heap.size w w' := by
  have HFw := Lib.hid (fun (W : World) (hb : Below w.heap.size w W) => few_any cs a cap 80 W (H.keep hb) hl (fun c hc => (hz c hc).1))
  have HN := Lib.hid (fun c hc => (hz c hc).2)
  have HH := Lib.hid H
  clear H hz
  go_enter Try.func4, Try.ntmps4
  go_upto_region 1 with fail
  go_wp2_with fail
  refine (awake_any _).mono ?_
  rintro e w1 ⟨rfl, hb2⟩
  have HB1 := Lib.hid hb2
  clear hb2
  go_wp2_with fail
  refine (HFw.out _ HB1.out).mono ?_
  rintro e w1' ⟨b, rfl, hb, rfl⟩
  have HBb := Lib.hid hb
  clear hb
  cases b with
  | false =>
    go_wp2_with fail
    refine (awake_any _).mono ?_
    rintro e w4 ⟨rfl, hb4⟩
    have HB4 := Lib.hid (below_two HB1.out hb4)
    clear hb4
    go_wp2_with fail
    go_ret
    exact ⟨rfl, HB4.out⟩
  | true =>
    obtain ⟨f1, f2⟩ := HBb.out.1 (by trivial)
    have HF := Lib.hid f1
    clear f1
    have hl6 : cs.length ≤ 80 := by omega
    clear HFw f2 HBb
    go_upto_region 3 with fail
    go_upto_region 4 with (first
      | (go_at_call 12; refine (new_any _).mono ?_; rintro e w2 ⟨p, rfl, H2⟩; have HP2 := Lib.hid (H2.from HB1.out); clear H2)
      | (go_at_call 13; refine (rnew_any _).mono ?_; rintro e w3 ⟨v3, rfl, ho3, hb3⟩; have HT3 := Lib.hid (show Twin w p newM [] v3 w3 from ⟨HP2.out.keep hb3, rs_new ho3, rel_new⟩); have HN3 := Lib.hid (rv_one ho3); clear ho3 hb3)
      | (refine wpList_store_row rfl 37 (.tmp 4) (.tmp 20) rfl w3.heap.size #[v3.n, v3.l, v3.c, v3.d, v3.a, v3.f] rfl rfl 37 nilsR (heap_alloc_new _ _) sizeRef rfl HN3.out ?_; rw [World.setRow_alloc_new]))
    have HB4 := Lib.hid (show Below w3.heap.size w3 (w3.alloc (.cells #[v3.n, v3.l, v3.c, v3.d, v3.a, v3.f] 37)) from (Below.refl _ _).alloc (Nat.le_refl _) _)
    have HQ4 := Lib.hid (heap_alloc_new w3 (.cells #[v3.n, v3.l, v3.c, v3.d, v3.a, v3.f] 37))
    have HLT := Lib.hid (show w.heap.size ≤ w3.heap.size from HT3.out.fs.below.size)
    generalize w3.alloc (.cells #[v3.n, v3.l, v3.c, v3.d, v3.a, v3.f] 37) = w4 at HB4 HQ4 ⊢
    have HR0 := Lib.hid (show BuildsRel cs w p w3.heap.size (.int .i64 0) w4 from ⟨0, [], v3, Nat.zero_le _, rfl, Nat.zero_le _, Lib.hid (HT3.out.keep HB4.out), HQ4.out⟩)
    clear HQ4 HB4 HT3 HP2
    generalize w3.heap.size = B5 at HR0 HLT ⊢
    go_wp2_with fail
    go_loopw [5] (BuildsRel cs w p B5) (fun v _ => cs.length - (intOf v).toNat)
    case atStart => exact HR0.out
    case round =>
      obtain ⟨k, L, r, hk, rfl, hL, HT, hb⟩ := hrel
      have HBX := Lib.hid hb
      clear hb
      by_cases hlt : k < cs.length
      · have d1 : decide ((k : Int) < (cs.length : Int)) = true := decide_eq_true (by omega)
        obtain ⟨c, hc⟩ : ∃ c, cs[k]? = some c := ⟨_, List.getElem?_eq_getElem hlt⟩
        obtain ⟨g, o, rfl, hr⟩ := (HH.out.keep HT.out.fs.below).at_ hc
        have HR := Lib.hid (show ∀ W, Below w.heap.size w W → W.rangeAt g (o + k * 8) (chgL c) from fun W hW => by
          obtain ⟨g', o', e, h⟩ := (HH.out.keep hW).at_ hc
          cases e
          exact h)
        have HRW := Lib.hid hr
        have HC := Lib.hid hc
        have HK := Lib.hid (runM_take hc newM)
        obtain ⟨n1, n2⟩ := HN.out c (List.mem_of_getElem? hc)
        obtain ⟨s1, s2⟩ := HF.out k c (by omega) hc
        have HSM := Lib.hid (show Small (runM (cs.take k) newM) k from by
          have := runM_small (cs.take k) newM 0 new_small
          rwa [List.length_take, Nat.min_eq_left hk, Nat.zero_add] at this)
        have HDV := Lib.hid (runM_dev (cs.take k) newM devInv_new)
        have HM0 := Lib.hid (runM_pos (cs.take k) newM (by decide))
        clear hr hc
        generalize runM (cs.take k) newM = M at HT HK HSM HDV HM0
        have HCV := Lib.hid (show chgV c = .agg (chgL c).toArray from rfl)
        have HD := Lib.hid (has_do_keeps (c := c) HT.out.fs HSM.out (by omega) HM0.out ⟨n1, n2⟩)
        go_upto_region 8 with (first
          | (refine wpList_load_mid rfl 43 (.tmp 31) rfl g (o + k * 8) rfl (chgL c) _ HRW.out Try.underlying43 rfl sizeChg ?_)
          | (go_at_call 14; rw [← HCV.out]; refine HD.out.mono ?_; rintro e w5 ⟨rfl, H5, K5, z5⟩; have HH5 := Lib.hid H5; have HK5 := Lib.hid K5; clear H5 K5))
        have HW5 := Lib.hid HH5.out.below
        have HB5 := Lib.hid (HK5.out B5 _ _ HBX.out (by decide) (by decide) (by decide))
        have HS5 := Lib.hid (HK5.out.rs HT.out.rs)
        have HFc := Lib.hid (show ∀ W, Below w5.heap.size w5 W → W.cell? ⟨B5, 0, none⟩ = some r.n ∧ W.cell? ⟨B5, 1, none⟩ = some r.l ∧ W.cell? ⟨B5, 2, none⟩ = some r.c ∧ W.cell? ⟨B5, 3, none⟩ = some r.d ∧ W.cell? ⟨B5, 4, none⟩ = some r.a ∧ W.cell? ⟨B5, 5, none⟩ = some r.f from fun W hW => by
          have q := box_keep2 HB5.out hW
          refine ⟨?_, ?_, ?_, ?_, ?_, ?_⟩ <;> (rw [cell_of_row _ _ _ _ _ _ q]; rfl))
        have HCc := Lib.hid (show ∀ W, Below w5.heap.size w5 W → W.cell? ⟨g, o + k * 8, none⟩ = some (.int .i64 c.kind) ∧ W.cell? ⟨g, o + k * 8 + 1, none⟩ = some (.int .i64 c.at_) ∧ W.cell? ⟨g, o + k * 8 + 2, none⟩ = some (.int .i64 c.to) ∧ W.cell? ⟨g, o + k * 8 + 3, none⟩ = some (.string c.name) ∧ W.cell? ⟨g, o + k * 8 + 4, none⟩ = some (.string c.text) ∧ W.cell? ⟨g, o + k * 8 + 5, none⟩ = some (.int .i64 c.a) ∧ W.cell? ⟨g, o + k * 8 + 6, none⟩ = some (.int .i64 c.b) ∧ W.cell? ⟨g, o + k * 8 + 7, none⟩ = some (.int .i64 c.n) from fun W hW => by
          have q := HR.out W (below_two HW5.out hW)
          exact ⟨q 0 _ rfl, q 1 _ rfl, q 2 _ rfl, q 3 _ rfl, q 4 _ rfl, q 5 _ rfl, q 6 _ rfl, q 7 _ rfl⟩)
        have HRD := Lib.hid (show ∀ W, Below w5.heap.size w5 W → Calls Try.prog 15 #[.agg #[r.n, r.l, r.c, r.d, r.a, r.f], chgV c] W (RDoP M L c W) from fun W hW => rdo_any M L r c W (HS5.out.keep hW) HT.out.rel HDV.out (by have := HSM.out.1; omega) (by omega) HM0.out (by omega) (by omega) n2)
        go_cut [8, 9, 10] from 36 to 46 (fun a8 a9 a10 wx => ∃ B7, a8 = .pointer (some ⟨B7, 0, none⟩) ∧ a9 = .int .i64 (doR M c) ∧ a10 = .int .i64 (wrongM M c) ∧ MadeMid w5 M c L B7 wx)
        case first =>
          refine Till.region (z := 13) (S := fun w' => Below w5.heap.size w5 w') (by kernel_rfl) ((Below.refl _ _).drew) (fun hHeld => ?_)
          refine Till.take (i := 0) (oi := { dst := some 37, op := Op.load 37 (Operand.tmp 4), type := 37, pos := "law.go:64", after := #[], guard := none }) (v := .agg #[r.n, r.l, r.c, r.d, r.a, r.f]) rfl (by kernel_rfl) (by kernel_rfl) (by kernel_rfl) (by kernel_rfl) (fun _ _ _ h => h) (Or.inl ⟨by rfl, fun w0 hS0 => ?_⟩) (by assumption) ?_
          · obtain ⟨c0, c1, c2, c3, c4, c5⟩ := HFc.out _ hS0; go_simp
          try simp only [Act.put, List.setIfInBounds_toArray, List.set_cons_zero, List.set_cons_succ]
          refine Till.take (i := 1) (oi := { dst := some 38, op := Op.move (Operand.tmp 0), type := 28, pos := "law.go:64", after := #[], guard := none }) (v := .slice (some ⟨g, o, none⟩) cs.length cap) rfl (by kernel_rfl) (by kernel_rfl) (by kernel_rfl) (by kernel_rfl) (fun _ _ _ h => h) (Or.inl ⟨by rfl, fun w0 hS0 => ?_⟩) (by assumption) ?_
          · go_simp
          try simp only [Act.put, List.setIfInBounds_toArray, List.set_cons_zero, List.set_cons_succ]
          refine Till.take (i := 2) (oi := { dst := some 39, op := Op.move (Operand.tmp 5), type := 3, pos := "law.go:64", after := #[], guard := none }) (v := .int .i64 (k : Int)) rfl (by kernel_rfl) (by kernel_rfl) (by kernel_rfl) (by kernel_rfl) (fun _ _ _ h => h) (Or.inl ⟨by rfl, fun w0 hS0 => ?_⟩) (by assumption) ?_
          · go_simp
          try simp only [Act.put, List.setIfInBounds_toArray, List.set_cons_zero, List.set_cons_succ]
          refine Till.take (i := 3) (oi := { dst := some 40, op := Op.indexAddr 28 (Operand.tmp 38) (Operand.tmp 39), type := 0, pos := "law.go:64", after := #[{ on := 1, ground := Ground.data }, { on := 2, ground := Ground.data }], guard := none }) (v := .pointer (some ⟨g, o + k * 8, none⟩)) rfl (by kernel_rfl) (by kernel_rfl) (by kernel_rfl) (by kernel_rfl) (fun _ _ _ h => h) (Or.inl ⟨by rfl, fun w0 hS0 => ?_⟩) (by assumption) ?_
          · go_simp
          try simp only [Act.put, List.setIfInBounds_toArray, List.set_cons_zero, List.set_cons_succ]
          refine Till.take (i := 4) (oi := { dst := some 41, op := Op.load 43 (Operand.tmp 40), type := 43, pos := "law.go:64", after := #[{ on := 3, ground := Ground.data }], guard := none }) (v := chgV c) rfl (by kernel_rfl) (by kernel_rfl) (by kernel_rfl) (by kernel_rfl) (fun _ _ _ h => h) (Or.inl ⟨by rfl, fun w0 hS0 => ?_⟩) (by assumption) ?_
          · obtain ⟨c0, c1, c2, c3, c4, c5, c6, c7⟩ := HCc.out _ hS0; unfold chgV; go_simp
          try simp only [Act.put, List.setIfInBounds_toArray, List.set_cons_zero, List.set_cons_succ]
          refine Till.two (i := 5) (j := 10) (o := { dst := some 42, op := Op.call { callee := Callee.value (Operand.func 15), args := #[Operand.tmp 37, Operand.tmp 41], argTypes := #[37, 43] }, type := 44, pos := "law.go:64", after := #[{ on := 0, ground := Ground.data }, { on := 4, ground := Ground.data }], guard := none }) (o' := { dst := some 8, op := Op.alloc 37, type := 0, pos := "law.go:64", after := #[], guard := none }) (by kernel_rfl) rfl rfl (fun K hK => ?_) (fun K hK => ?_)
          · go_simp
            refine (HRD.out _ (hHeld)).mono ?_
            rintro e w6 ⟨r', L', rfl, R6, E6, l6, b6⟩
            have HR6 := Lib.hid R6
            have HN6 := Lib.hid (rs_one R6)
            have HE6 := Lib.hid E6
            have HB6 := Lib.hid (below_two (hHeld) b6)
            clear R6 E6 b6
            go_wp2_with fail
            refine hK.out _ _ (fun _ => HB6.out) ?_
            clear hK K
            have hHeld6 := HB6.out
            try simp only [Act.put, List.setIfInBounds_toArray, List.set_cons_zero, List.set_cons_succ]
            refine Till.take (i := 6) (oi := { dst := some 36, op := Op.move (Operand.tmp 42), type := 44, pos := "law.go:64", after := #[{ on := 5, ground := Ground.data }], guard := none }) (v := .tuple #[rvV r', .int .i64 (doR M c), .int .i64 (wrongM M c)]) rfl (by kernel_rfl) (by kernel_rfl) (by kernel_rfl) (by kernel_rfl) (fun _ _ _ h => h) (Or.inl ⟨by rfl, fun w0 hS0 => ?_⟩) (by assumption) ?_
            · go_simp
            try simp only [Act.put, List.setIfInBounds_toArray, List.set_cons_zero, List.set_cons_succ]
            refine Till.take (i := 7) (oi := { dst := some 43, op := Op.extract (Operand.tmp 36) 0, type := 37, pos := "law.go:64", after := #[{ on := 6, ground := Ground.data }], guard := none }) (v := rvV r') rfl (by kernel_rfl) (by kernel_rfl) (by kernel_rfl) (by kernel_rfl) (fun _ _ _ h => h) (Or.inl ⟨by rfl, fun w0 hS0 => ?_⟩) (by assumption) ?_
            · go_simp
            try simp only [Act.put, List.setIfInBounds_toArray, List.set_cons_zero, List.set_cons_succ]
            refine Till.take (i := 8) (oi := { dst := some 44, op := Op.extract (Operand.tmp 36) 1, type := 3, pos := "law.go:64", after := #[{ on := 6, ground := Ground.data }, { on := 11, ground := Ground.gcOnly Departure.lateStores }], guard := none }) (v := .int .i64 (doR M c)) rfl (by kernel_rfl) (by kernel_rfl) (by kernel_rfl) (by kernel_rfl) (fun _ _ _ h => h) (Or.inl ⟨by rfl, fun w0 hS0 => ?_⟩) (by assumption) ?_
            · go_simp
            try simp only [Act.put, List.setIfInBounds_toArray, List.set_cons_zero, List.set_cons_succ]
            refine Till.take (i := 9) (oi := { dst := some 45, op := Op.extract (Operand.tmp 36) 2, type := 39, pos := "law.go:64", after := #[{ on := 6, ground := Ground.data }, { on := 12, ground := Ground.gcOnly Departure.lateStores }], guard := none }) (v := .int .i64 (wrongM M c)) rfl (by kernel_rfl) (by kernel_rfl) (by kernel_rfl) (by kernel_rfl) (fun _ _ _ h => h) (Or.inl ⟨by rfl, fun w0 hS0 => ?_⟩) (by assumption) ?_
            · go_simp
            try simp only [Act.put, List.setIfInBounds_toArray, List.set_cons_zero, List.set_cons_succ]
            refine Till.next (i := 10) (o := { dst := some 8, op := Op.alloc 37, type := 0, pos := "law.go:64", after := #[], guard := none }) (by kernel_rfl) rfl (fun K hK => ?_)
            go_simp
            refine hK.out _ _ (fun _ => HB6.out.alloc HB6.out.size _) ?_
            clear hK K
            have hHeld7 := HB6.out.alloc HB6.out.size (.cells nilsR 37)
            have HBt := Lib.hid (but_setRow (heap_alloc_new w6 (.cells nilsR 37)) #[r'.n, r'.l, r'.c, r'.d, r'.a, r'.f])
            try simp only [Act.put, List.setIfInBounds_toArray, List.set_cons_zero, List.set_cons_succ]
            refine Till.next (i := 11) (o := { dst := none, op := Op.store 37 (Operand.tmp 8) (Operand.tmp 43), type := 0, pos := "law.go:64", after := #[{ on := 10, ground := Ground.data }, { on := 7, ground := Ground.data }, { on := 5, ground := Ground.chain }, { on := 0, ground := Ground.phase }, { on := 1, ground := Ground.phase }, { on := 2, ground := Ground.phase }, { on := 3, ground := Ground.phase }, { on := 4, ground := Ground.phase }, { on := 5, ground := Ground.phase }, { on := 6, ground := Ground.phase }, { on := 7, ground := Ground.phase }, { on := 8, ground := Ground.textOnly Departure.lateStores }, { on := 9, ground := Ground.textOnly Departure.lateStores }, { on := 10, ground := Ground.phase }], guard := none }) (by kernel_rfl) rfl (fun K hK => ?_)
            refine step_store_row rfl 37 (.tmp 8) (.tmp 43) rfl (w6.heap.size) #[r'.n, r'.l, r'.c, r'.d, r'.a, r'.f] rfl rfl 37 nilsR (heap_alloc_new _ _) sizeRef rfl HN6.out ?_
            refine hK.out _ _ (fun _ => HBt.out.from hHeld7 HB6.out.size hHeld7.size) ?_
            clear hK K
            try simp only [Act.put, List.setIfInBounds_toArray, List.set_cons_zero, List.set_cons_succ]
            refine Till.next (i := 12) (o := { dst := some 9, op := Op.assign (Operand.tmp 44), type := 3, pos := "law.go:64", after := #[{ on := 8, ground := Ground.data }, { on := 11, ground := Ground.chain }, { on := 0, ground := Ground.phase }, { on := 1, ground := Ground.phase }, { on := 2, ground := Ground.phase }, { on := 3, ground := Ground.phase }, { on := 4, ground := Ground.phase }, { on := 5, ground := Ground.phase }, { on := 6, ground := Ground.phase }, { on := 7, ground := Ground.phase }, { on := 8, ground := Ground.phase }, { on := 9, ground := Ground.textOnly Departure.lateStores }, { on := 10, ground := Ground.phase }, { on := 11, ground := Ground.phase }], guard := none }) (by kernel_rfl) rfl (fun K hK => ?_)
            go_simp
            refine hK.out _ _ (fun _ => HBt.out.from hHeld7 HB6.out.size hHeld7.size) ?_
            clear hK K
            try simp only [Act.put, List.setIfInBounds_toArray, List.set_cons_zero, List.set_cons_succ]
            refine Till.next (i := 13) (o := { dst := some 10, op := Op.assign (Operand.tmp 45), type := 39, pos := "law.go:64", after := #[{ on := 9, ground := Ground.data }, { on := 12, ground := Ground.chain }, { on := 0, ground := Ground.phase }, { on := 1, ground := Ground.phase }, { on := 2, ground := Ground.phase }, { on := 3, ground := Ground.phase }, { on := 4, ground := Ground.phase }, { on := 5, ground := Ground.phase }, { on := 6, ground := Ground.phase }, { on := 7, ground := Ground.phase }, { on := 8, ground := Ground.phase }, { on := 9, ground := Ground.phase }, { on := 10, ground := Ground.phase }, { on := 11, ground := Ground.phase }, { on := 12, ground := Ground.phase }], guard := none }) (by kernel_rfl) rfl (fun K hK => ?_)
            go_simp
            refine hK.out _ _ (fun q => absurd rfl q) ?_
            clear hK K
            try simp only [Act.put, List.setIfInBounds_toArray, List.set_cons_zero, List.set_cons_succ]
            refine Till.done (by kernel_rfl) ?_
            go_wp2_with fail
            go_meet
            exact ⟨_, rfl, rfl, rfl, r', L', setRow_heap _ _ _ _ _ _ (heap_alloc_new _ _), HBt.out.rs (heap_alloc_new _ _) (HR6.out.keep ((Below.refl _ _).alloc (Nat.le_refl _) _)), HE6.out, l6, HBt.out.from hHeld7 HB6.out.size hHeld7.size, HB6.out.size⟩
          · go_simp
            refine hK.out _ _ (fun _ => hHeld.alloc hHeld.size _) ?_
            clear hK K
            have hHeld7 := hHeld.alloc hHeld.size (.cells nilsR 37)
            have HQ7 := Lib.hid (heap_alloc_new w5.drew (.cells nilsR 37))
            try simp only [Act.put, List.setIfInBounds_toArray, List.set_cons_zero, List.set_cons_succ]
            refine Till.next (i := 5) (o := { dst := some 42, op := Op.call { callee := Callee.value (Operand.func 15), args := #[Operand.tmp 37, Operand.tmp 41], argTypes := #[37, 43] }, type := 44, pos := "law.go:64", after := #[{ on := 0, ground := Ground.data }, { on := 4, ground := Ground.data }], guard := none }) (by kernel_rfl) rfl (fun K hK => ?_)
            go_simp
            refine (HRD.out _ (hHeld7)).mono ?_
            rintro e w6 ⟨r', L', rfl, R6, E6, l6, b6⟩
            have HR6 := Lib.hid R6
            have HN6 := Lib.hid (rs_one R6)
            have HE6 := Lib.hid E6
            have HB6 := Lib.hid (below_two (hHeld7) b6)
            have HQ8 := Lib.hid (box_keep2 HQ7.out b6)
            have HBt := Lib.hid (but_setRow HQ8.out #[r'.n, r'.l, r'.c, r'.d, r'.a, r'.f])
            clear R6 E6 b6
            go_wp2_with fail
            refine hK.out _ _ (fun _ => HB6.out) ?_
            clear hK K
            have hHeld6 := HB6.out
            try simp only [Act.put, List.setIfInBounds_toArray, List.set_cons_zero, List.set_cons_succ]
            refine Till.take (i := 6) (oi := { dst := some 36, op := Op.move (Operand.tmp 42), type := 44, pos := "law.go:64", after := #[{ on := 5, ground := Ground.data }], guard := none }) (v := .tuple #[rvV r', .int .i64 (doR M c), .int .i64 (wrongM M c)]) rfl (by kernel_rfl) (by kernel_rfl) (by kernel_rfl) (by kernel_rfl) (fun _ _ _ h => h) (Or.inl ⟨by rfl, fun w0 hS0 => ?_⟩) (by assumption) ?_
            · go_simp
            try simp only [Act.put, List.setIfInBounds_toArray, List.set_cons_zero, List.set_cons_succ]
            refine Till.take (i := 7) (oi := { dst := some 43, op := Op.extract (Operand.tmp 36) 0, type := 37, pos := "law.go:64", after := #[{ on := 6, ground := Ground.data }], guard := none }) (v := rvV r') rfl (by kernel_rfl) (by kernel_rfl) (by kernel_rfl) (by kernel_rfl) (fun _ _ _ h => h) (Or.inl ⟨by rfl, fun w0 hS0 => ?_⟩) (by assumption) ?_
            · go_simp
            try simp only [Act.put, List.setIfInBounds_toArray, List.set_cons_zero, List.set_cons_succ]
            refine Till.take (i := 8) (oi := { dst := some 44, op := Op.extract (Operand.tmp 36) 1, type := 3, pos := "law.go:64", after := #[{ on := 6, ground := Ground.data }, { on := 11, ground := Ground.gcOnly Departure.lateStores }], guard := none }) (v := .int .i64 (doR M c)) rfl (by kernel_rfl) (by kernel_rfl) (by kernel_rfl) (by kernel_rfl) (fun _ _ _ h => h) (Or.inl ⟨by rfl, fun w0 hS0 => ?_⟩) (by assumption) ?_
            · go_simp
            try simp only [Act.put, List.setIfInBounds_toArray, List.set_cons_zero, List.set_cons_succ]
            refine Till.take (i := 9) (oi := { dst := some 45, op := Op.extract (Operand.tmp 36) 2, type := 39, pos := "law.go:64", after := #[{ on := 6, ground := Ground.data }, { on := 12, ground := Ground.gcOnly Departure.lateStores }], guard := none }) (v := .int .i64 (wrongM M c)) rfl (by kernel_rfl) (by kernel_rfl) (by kernel_rfl) (by kernel_rfl) (fun _ _ _ h => h) (Or.inl ⟨by rfl, fun w0 hS0 => ?_⟩) (by assumption) ?_
            · go_simp
            try simp only [Act.put, List.setIfInBounds_toArray, List.set_cons_zero, List.set_cons_succ]
            refine Till.next (i := 11) (o := { dst := none, op := Op.store 37 (Operand.tmp 8) (Operand.tmp 43), type := 0, pos := "law.go:64", after := #[{ on := 10, ground := Ground.data }, { on := 7, ground := Ground.data }, { on := 5, ground := Ground.chain }, { on := 0, ground := Ground.phase }, { on := 1, ground := Ground.phase }, { on := 2, ground := Ground.phase }, { on := 3, ground := Ground.phase }, { on := 4, ground := Ground.phase }, { on := 5, ground := Ground.phase }, { on := 6, ground := Ground.phase }, { on := 7, ground := Ground.phase }, { on := 8, ground := Ground.textOnly Departure.lateStores }, { on := 9, ground := Ground.textOnly Departure.lateStores }, { on := 10, ground := Ground.phase }], guard := none }) (by kernel_rfl) rfl (fun K hK => ?_)
            refine step_store_row rfl 37 (.tmp 8) (.tmp 43) rfl (w5.drew.heap.size) #[r'.n, r'.l, r'.c, r'.d, r'.a, r'.f] rfl rfl 37 nilsR (HQ8.out) sizeRef rfl HN6.out ?_
            refine hK.out _ _ (fun _ => HBt.out.from hHeld6 hHeld.size hHeld6.size) ?_
            clear hK K
            try simp only [Act.put, List.setIfInBounds_toArray, List.set_cons_zero, List.set_cons_succ]
            refine Till.next (i := 12) (o := { dst := some 9, op := Op.assign (Operand.tmp 44), type := 3, pos := "law.go:64", after := #[{ on := 8, ground := Ground.data }, { on := 11, ground := Ground.chain }, { on := 0, ground := Ground.phase }, { on := 1, ground := Ground.phase }, { on := 2, ground := Ground.phase }, { on := 3, ground := Ground.phase }, { on := 4, ground := Ground.phase }, { on := 5, ground := Ground.phase }, { on := 6, ground := Ground.phase }, { on := 7, ground := Ground.phase }, { on := 8, ground := Ground.phase }, { on := 9, ground := Ground.textOnly Departure.lateStores }, { on := 10, ground := Ground.phase }, { on := 11, ground := Ground.phase }], guard := none }) (by kernel_rfl) rfl (fun K hK => ?_)
            go_simp
            refine hK.out _ _ (fun _ => HBt.out.from hHeld6 hHeld.size hHeld6.size) ?_
            clear hK K
            try simp only [Act.put, List.setIfInBounds_toArray, List.set_cons_zero, List.set_cons_succ]
            refine Till.next (i := 13) (o := { dst := some 10, op := Op.assign (Operand.tmp 45), type := 39, pos := "law.go:64", after := #[{ on := 9, ground := Ground.data }, { on := 12, ground := Ground.chain }, { on := 0, ground := Ground.phase }, { on := 1, ground := Ground.phase }, { on := 2, ground := Ground.phase }, { on := 3, ground := Ground.phase }, { on := 4, ground := Ground.phase }, { on := 5, ground := Ground.phase }, { on := 6, ground := Ground.phase }, { on := 7, ground := Ground.phase }, { on := 8, ground := Ground.phase }, { on := 9, ground := Ground.phase }, { on := 10, ground := Ground.phase }, { on := 11, ground := Ground.phase }, { on := 12, ground := Ground.phase }], guard := none }) (by kernel_rfl) rfl (fun K hK => ?_)
            go_simp
            refine hK.out _ _ (fun q => absurd rfl q) ?_
            clear hK K
            try simp only [Act.put, List.setIfInBounds_toArray, List.set_cons_zero, List.set_cons_succ]
            refine Till.done (by kernel_rfl) ?_
            go_wp2_with fail
            go_meet
            exact ⟨_, rfl, rfl, rfl, r', L', setRow_heap _ _ _ _ _ _ HQ8.out, HBt.out.rs HQ8.out HR6.out, HE6.out, l6, HBt.out.from hHeld6 hHeld.size hHeld6.size, hHeld.size⟩
        case rest =>
          obtain ⟨B7, rfl, rfl, rfl, r', L', hb7, R7, E7, l7, bel7, ge7⟩ := hcut
          have HN7 := Lib.hid (rs_one R7)
          have HR7 := Lib.hid R7
          have HE7 := Lib.hid E7
          have HL7 := Lib.hid hb7
          have HBL := Lib.hid bel7
          have hb5 := box_keep2 HB5.out bel7
          have HX5 := Lib.hid hb5
          have HBt := Lib.hid (but_setRow hb5 #[r'.n, r'.l, r'.c, r'.d, r'.a, r'.f])
          have b1 : (doR M c != doR M c) = false := by simp
          have b2 : (wrongM M c != wrongM M c) = false := by simp
          clear R7 E7 hb7 bel7 hb5
          go_wp2_with (first
            | (refine wpList_load_row rfl 37 (.tmp 8) rfl B7 rfl _ _ _ _ HL7.out Try.underlying37 rfl (by rw [sizeRef]; rfl) ?_)
            | (refine wpList_store_row rfl 37 (.tmp 4) (.tmp 46) rfl B5 #[r'.n, r'.l, r'.c, r'.d, r'.a, r'.f] rfl rfl 37 _ HX5.out sizeRef rfl HN7.out ?_))
          go_roundw
          case rel =>
            refine ⟨k + 1, L', r', by omega, by simp, by omega, Lib.hid ⟨?_, ?_, ?_⟩, setRow_heap _ _ _ _ _ _ HX5.out⟩
            · rw [HK.out]; exact (HH5.out.keep HBL.out).but HBt.out HX5.out HLT.out
            · rw [HK.out]; exact HBt.out.rs HX5.out HR7.out
            · rw [HK.out]; exact HE7.out
          case measure => simp [intOf]; omega
      · have d1 : decide ((k : Int) < (cs.length : Int)) = false := decide_eq_false (by omega)
        obtain rfl : k = cs.length := by omega
        have HTK := Lib.hid (show Twin w p (runM cs newM) L r wr from by have := HT.out; rwa [List.take_length] at this)
        have HSM := Lib.hid (show Small (runM cs newM) cs.length from by
          have := runM_small cs newM 0 new_small
          rwa [Nat.zero_add] at this)
        have HAl := Lib.hid (alikeF_any w p (runM cs newM) L r wr HTK.out (runM_linv cs newM linv_new) (runM_pos cs newM (by decide)) (by have := HSM.out.1; omega) (by omega) (small_fewE HSM.out (by omega)))
        go_wp2_with (first
          | (refine wpList_load_row rfl 37 (.tmp 4) rfl B5 rfl _ _ _ _ HBX.out Try.underlying37 rfl (by rw [sizeRef]; rfl) ?_)
          | (go_at_call 16; refine HAl.out.mono ?_; rintro e w9 ⟨rfl, hb9⟩; have HB9 := Lib.hid (below_two HTK.out.fs.below hb9); clear hb9))
        go_ret
        exact ⟨rfl, HB9.out⟩
end Go.Proofs.Ytemjlamgnkjejaa
