/-
  What changes make, as a tree that is gone through: bounds of a walk of it, and that what is shown has different names. Conditions: each fact's own.
-/
import Derived.Test.YtcjbnjoomgagjaaGreatDoorKGTree
import Derived.Test.YtcjbnjoomgagjaaGreatDoorKVLinks
import Derived.Test.YtcjbnjoomgagjaaGreatDoorKGWalk
import Derived.Test.YtcjbnjoomgagjaaGreatDoorKGSorted
set_option linter.unusedVariables false
set_option linter.unusedSimpArgs false
namespace Go.Proofs.YtcjbnjoomgagjaaGreatDoor.G
open Go.Proofs.YtcjbnjoomgagjaaGreatDoor.V Go.Proofs.YtcjbnjoomgagjaaGreatDoor.P Go.Proofs.YtcjbnjoomgagjaaGreatDoor.O
theorem runM_ri : ∀ (cs : List Chg) (M : List Nd), RI M → DevInv M → RI (runM cs M)
  | [], M, h, _ => h
  | c :: r, M, h, hd => runM_ri r (doM M c) (h.do_ hd) (devInv_do hd)
theorem runM_ui : ∀ (cs : List Chg) (M : List Nd), UI M → RI M → DevInv M → UI (runM cs M)
  | [], M, h, _, _ => h
  | c :: r, M, h, hr, hd => runM_ui r (doM M c) (h.do_ hr hd) (hr.do_ hd) (devInv_do hd)
theorem list_sub {M : List Nd} (R : RI M) (i : Int) : DiffE (listL M i) ∧ ∀ e ∈ listL M i, goodB e.1 = true ∧ 0 ≤ e.2 ∧ e.2 < (M.length : Int) := by
  unfold listL
  cases ha : atM M i with
  | none => exact ⟨List.Pairwise.nil, fun e h => by cases h⟩
  | some n =>
    obtain ⟨k, hk, hn⟩ := atM_some ha
    have h1 : DiffE n.ents := (R.one k n hn).imp fun {a b} h q => by
      have : sameT a.1 b.1 = true := by rw [q]; exact sameT_self _
      rw [h] at this
      cases this
    dsimp only
    repeat' split
    all_goals first | exact ⟨List.Pairwise.nil, fun e h => by cases h⟩ | exact ⟨h1, fun e he => ⟨R.good k n hn e he, R.num k n hn e he⟩⟩
theorem shown_good {M : List Nd} (R : RI M) (all : Bool) (i : Int) {e : En} (h : e ∈ shownL M all i) : goodB e.1 = true ∧ 0 ≤ e.2 ∧ e.2 < (M.length : Int) := (list_sub R i).2 e (shown_mem h)
end Go.Proofs.YtcjbnjoomgagjaaGreatDoor.G
namespace Go.Proofs.YtcjbnjoomgagjaaGreatDoor.G
open Go.RowKit
def muA (L : List Vis) (l : Nat) (a : Act) (w : World) : Nat := match a.tmps.getD 15 undef with
  | .pointer (some ad) => muW L ad.block l w
  | _ => 0
theorem sizeWalk : (Tryz.prog.info? 70).map (·.size) = some 7 := by kernel_rfl
def walkZ : Array Value := #[.pointer none, .int .i64 0, .int .i64 0, .int .i64 0, .bool false, .slice none 0 0, .slice none 0 0]
theorem walkC_one (p : Nat) (u g m : Int) (all : Bool) : (#[.pointer (some ⟨p, 0, none⟩), .int .i64 u, .int .i64 g, .int .i64 m, .bool all, .slice none 0 0, .slice none 0 0] : Array Value).all (·.oneCell') = true := by simp [Value.oneCell']
theorem owns_lower {w : World} {b b' : Nat} {e : TypeId} {size n : Nat} {v : Value} {xs : List Value} (h : w.ownsRow b e size v n xs) (hb : b' ≤ b) : w.ownsRow b' e size v n xs := by
  obtain ⟨q1, q2⟩ := h
  refine ⟨q1, ?_⟩
  rcases q2 with q | ⟨g', c', cur, q3, q4, q5⟩
  · exact .inl q
  · exact .inr ⟨g', c', cur, q3, Nat.le_trans hb q4, q5⟩
def firstV (id : Int) (name : ByteArray) : Vis := ⟨id, 0, name, name, true, false, 0⟩
def walkL (T : Tr) (E : Int → Int) (most id : Int) (name : ByteArray) : List Vis := if E id = 0 then wkV T most (firstV id name) else []
def WalkP (T : Tr) (E : Int → Int) (most id : Int) (name : ByteArray) (w : World) (e : Ending) (w' : World) : Prop :=
  ∃ v, e = .returned v ∧ w'.ownsRow w.heap.size 42 7 v (walkL T E most id name).length (rowsC visC (walkL T E most id name)) ∧ Below w.heap.size w w'
section
variable {T : Tr} {E : Int → Int} {W0 : World} {R nb : Nat} {b p : Nat} {u g most id : Int} {name : ByteArray} {all : Bool} {L : List Vis}
set_option maxRecDepth 100000 in
theorem ret_fin (hL : walkL T E most id name = L) (hR : W0.heap.size ≤ R) (a : Act) (w : World) (h : RetW L W0 R nb b a w) : bodyPost Tryz.prog Tryz.f10 (WalkP T E most id name W0) .ret a w := by
  obtain ⟨vv, u0, u1, u2, u3, u4, u5, u6, u7, u8, u9, u10, u11, u13, u14, u17, u18, u19, u20, u21, u22, u23, u24, u25, u26, u27, u28, u29, u30, u31, u32, u33, u34, u35, u36, u37, u38, u39, u40, u41, u42, u43, u44, u45, u46, u47, u48, u49, u50, u51, u52, u53, u54, u55, ho, hb, rfl⟩ := h
  go_ret
  exact ⟨vv, rfl, by rw [hL]; exact owns_lower ho hR, hb⟩
def JX (T : Tr) (most : Int) (L : List Vis) (W0 : World) (p : Nat) (u g : Int) (all : Bool) (l : Nat) (a : Act) (w' : World) : Prop := ∃ R nb b, W0.heap.size ≤ nb ∧ W0.heap.size ≤ R ∧ JW T most L W0 R nb b p u g all l a w'
theorem jw_mu {l : Nat} {a : Act} {w : World} (h : JW T most L W0 R nb b p u g all l a w) : muA L l a w = muW L b l w := by
  obtain ⟨u0, u1, u2, u3, u4, u5, u6, u7, u8, u9, u10, u11, u12, u13, u14, u17, u18, u19, u20, u21, u22, u23, u24, u25, u26, u27, u28, u29, u30, u31, u32, u33, u34, u35, u36, u37, u38, u39, u40, u41, u42, u43, u44, u45, u46, u47, u48, u49, u50, u51, u52, u53, u54, u55, _, rfl⟩ := h
  rfl
set_option maxRecDepth 100000 in
set_option maxHeartbeats 8000000 in
theorem pwalk_any (HT : Tel T E W0 p u g all) (hL : (wkV T most (firstV id name)).length ≤ 200000) (hN : ∀ x ∈ wkV T most (firstV id name), x.name.size ≤ 90000) (hE : ∀ d, ∀ e ∈ (T.shown d).2, e.1.size ≤ 1000) :
    Calls Tryz.prog 10 #[.pointer (some ⟨p, 0, none⟩), P.credV u g, .int .i64 id, .string name, .int .i64 most, .bool all] W0 (WalkP T E most id name W0) := by
  have HLn := Lib.hid hL
  have HNm := Lib.hid hN
  have HEn := Lib.hid hE
  clear hL hN hE
  obtain ⟨L, hL⟩ : ∃ L, walkL T E most id name = L := ⟨_, rfl⟩
  have HL := Lib.hid hL
  unfold P.credV
  go_enter Tryz.func10, Tryz.ntmps10
  go_wp2_with fail
  by_cases hE0 : E id = 0
  · have HLe := Lib.hid (show L = wkV T most (firstV id name) from by rw [← hL]; unfold walkL; rw [if_pos hE0])
    clear hL
    have hL2 : L.length ≤ 200000 := by rw [HLe.out]; exact HLn.out
    refine B.wp_scope_hops (JX T most L W0 p u g all) (muA L) ?pass ?start
    case pass =>
      rintro l a w ⟨R, nb, b, hB, hR, hj⟩
      have HJ := Lib.hid hj
      have hmu := jw_mu hj
      have hl : l = 0 ∨ l = 1 := by
        obtain ⟨_, _, _, _, _, _, _, _, _, _, _, _, _, _, _, _, _, _, _, _, _, _, _, _, _, _, _, _, _, _, _, _, _, _, _, _, _, _, _, _, _, _, _, _, _, _, _, _, _, _, _, _, _, _, ⟨S, D, sv, vv, nc, _, _, _, hl⟩, _⟩ := hj
        rcases hl with ⟨h, _⟩ | ⟨h, _⟩
        · exact .inr h
        · exact .inl h
      clear hj
      rcases hl with rfl | rfl
      · refine ⟨_, rfl, ?_⟩
        refine wp_seq (wp_skip (then_normal ?_))
        exact visit_part HT hB hL2 (by rw [HLe.out]; exact HNm.out) HEn.out ⟨_, _, rfl, rfl⟩ a w HJ.out (fun l2 a2 w2 h2 hlt => B.hops_goto ⟨⟨R, nb, b, hB, hR, h2⟩, by rw [jw_mu h2, hmu]; exact hlt⟩) (fun a2 w2 h2 => B.hops_ret (ret_fin HL.out hR a2 w2 h2))
      · refine ⟨_, rfl, ?_⟩
        refine wp_seq (wp_skip (then_normal ?_))
        exact next_part HT hB hL2 (by rw [HLe.out]; exact HNm.out) ⟨_, _, rfl, rfl⟩ a w HJ.out (fun l2 a2 w2 h2 hlt => B.hops_goto ⟨⟨R, nb, b, hB, hR, h2⟩, by rw [jw_mu h2, hmu]; exact hlt⟩) (fun a2 w2 h2 => B.hops_ret (ret_fin HL.out hR a2 w2 h2))
    case start =>
      have HNd := Lib.hid (fun W hb => HT.node id W hb)
      have HOv := Lib.hid (fun W hb => HT.over id W hb)
      have HB0 := Lib.hid ((Below.refl W0.heap.size W0).alloc (Nat.le_refl _) (.cells #[.int .i64 u, .int .i64 g] 24))
      have HX0 := Lib.hid (heap_alloc_new W0 (.cells #[.int .i64 u, .int .i64 g] 24))
      rw [hE0] at HNd
      go_upto_region 1 with fail
      generalize W0.alloc (.cells #[.int .i64 u, .int .i64 g] 24) = wa at HB0 HX0 ⊢
      go_wp2_with fail
      refine (HNd.out _ HB0.out).mono ?_
      rintro e wb ⟨n, rfl, hk, hb⟩
      have HBb := Lib.hid (HB0.out.trans (hb.mono HB0.out.size))
      have HXb := Lib.hid ((hb.block _ (B.heap_lt HX0.out)).trans HX0.out)
      clear hb hk HB0 HX0 HNd
      unfold P.nodeV
      go_upto_region 2 with (refine wpList_store_row rfl 55 (.tmp 13) (.tmp 21) rfl wb.heap.size (nodeC n) rfl rfl _ _ (heap_alloc_new _ _) sizeNode rfl (nodeC_one n) ?_; rw [World.setRow_alloc_new])
      have HA1 := Lib.hid ((Below.refl wb.heap.size wb).alloc (Nat.le_refl _) (.cells (nodeC n) 55))
      generalize wb.alloc (.cells (nodeC n) 55) = w1 at HA1 ⊢
      have HB1 := Lib.hid (HBb.out.trans (HA1.out.mono HBb.out.size))
      have HX1 := Lib.hid ((HA1.out.block _ (B.heap_lt HXb.out)).trans HXb.out)
      have HCr := Lib.hid (show ∀ W, Below w1.heap.size w1 W → W.cell? ⟨W0.heap.size, 0, none⟩ = some (.int .i64 u) ∧ W.cell? ⟨W0.heap.size, 1, none⟩ = some (.int .i64 g) from fun W hW => by
        have q := (hW.block _ (B.heap_lt HX1.out)).trans HX1.out
        constructor <;> (rw [cell_of_row _ _ _ _ _ _ q]; rfl))
      clear HBb HXb HA1 HX1
      go_upto_region 4 with fail
      go_cut [15] from 25 to 31 (fun a15 wx => ∃ b : Nat, a15 = .pointer (some ⟨b, 0, none⟩) ∧ wx.heap[b]? = some (.cells #[.pointer (some ⟨p, 0, none⟩), .int .i64 u, .int .i64 g, .int .i64 (deepestI most), .bool all, .slice none 0 0, .slice none 0 0] 70 (0, 0)) ∧ Below w1.heap.size w1 wx ∧ w1.heap.size ≤ b)
      case first =>
-- TILL 1
        refine B.Till.region (z := 7) (S := fun w' => Below w1.heap.size w1 w') (by kernel_rfl) ((Below.refl _ _).drew) (fun hHeld => ?_)
        refine B.Till.take (i := 0) (oi := { dst := some 25, op := Op.move (Operand.tmp 0), type := 29, pos := "roam.go:73", after := #[], guard := none }) (v := .pointer (some ⟨p, 0, none⟩)) rfl (by kernel_rfl) (by kernel_rfl) (by kernel_rfl) (by kernel_rfl) (fun _ _ _ h => h) (Or.inl ⟨by rfl, fun w0 hS0 => ?_⟩) (by assumption) ?_
        · go_simp
        try simp only [Act.put, List.setIfInBounds_toArray, List.set_cons_zero, List.set_cons_succ]
        refine B.Till.take (i := 1) (oi := { dst := some 26, op := Op.load 24 (Operand.tmp 7), type := 24, pos := "roam.go:73", after := #[], guard := none }) (v := .agg #[.int .i64 u, .int .i64 g]) rfl (by kernel_rfl) (by kernel_rfl) (by kernel_rfl) (by kernel_rfl) (fun _ _ _ h => h) (Or.inl ⟨by rfl, fun w0 hS0 => ?_⟩) (by assumption) ?_
        · obtain ⟨c0, c1⟩ := HCr.out _ hS0; go_simp
        try simp only [Act.put, List.setIfInBounds_toArray, List.set_cons_zero, List.set_cons_succ]
        refine B.Till.take (i := 2) (oi := { dst := some 27, op := Op.move (Operand.tmp 4), type := 3, pos := "roam.go:73", after := #[], guard := none }) (v := .int .i64 most) rfl (by kernel_rfl) (by kernel_rfl) (by kernel_rfl) (by kernel_rfl) (fun _ _ _ h => h) (Or.inl ⟨by rfl, fun w0 hS0 => ?_⟩) (by assumption) ?_
        · go_simp
        try simp only [Act.put, List.setIfInBounds_toArray, List.set_cons_zero, List.set_cons_succ]
        refine B.Till.take (i := 4) (oi := { dst := some 29, op := Op.move (Operand.tmp 5), type := 4, pos := "roam.go:73", after := #[], guard := none }) (v := .bool all) rfl (by kernel_rfl) (by kernel_rfl) (by kernel_rfl) (by kernel_rfl) (fun _ _ _ h => h) (Or.inl ⟨by rfl, fun w0 hS0 => ?_⟩) (by assumption) ?_
        · go_simp
        try simp only [Act.put, List.setIfInBounds_toArray, List.set_cons_zero, List.set_cons_succ]
        refine B.Till.two (i := 3) (j := 6) (o := { dst := some 28, op := Op.call { callee := Callee.value (Operand.func 23), args := #[Operand.tmp 27], argTypes := #[3] }, type := 3, pos := "roam.go:73", after := #[{ on := 2, ground := Ground.data }], guard := none }) (o' := { dst := some 15, op := Op.alloc 70, type := 0, pos := "roam.go:73", after := #[], guard := none }) (by kernel_rfl) rfl rfl (fun K hK => ?_) (fun K hK => ?_)
        · go_simp
          refine (deepest_any most _).mono ?_
          rintro e w6 ⟨rfl, hw6⟩
          subst hw6
          go_wp2_with fail
          refine hK.out _ _ (fun _ => hHeld) ?_
          clear hK K
          try simp only [Act.put, List.setIfInBounds_toArray, List.set_cons_zero, List.set_cons_succ]
          refine B.Till.take (i := 5) (oi := { dst := some 30, op := Op.build 70 #[(0, Operand.tmp 25), (1, Operand.tmp 26), (2, Operand.tmp 28), (3, Operand.tmp 29)], type := 70, pos := "roam.go:73", after := #[{ on := 0, ground := Ground.data }, { on := 1, ground := Ground.data }, { on := 3, ground := Ground.data }, { on := 4, ground := Ground.data }], guard := none }) (v := .agg #[.pointer (some ⟨p, 0, none⟩), .int .i64 u, .int .i64 g, .int .i64 (deepestI most), .bool all, .slice none 0 0, .slice none 0 0]) rfl (by kernel_rfl) (by kernel_rfl) (by kernel_rfl) (by kernel_rfl) (fun _ _ _ h => h) (Or.inl ⟨by rfl, fun w0 hS0 => ?_⟩) (by assumption) ?_
          · go_simp
          try simp only [Act.put, List.setIfInBounds_toArray, List.set_cons_zero, List.set_cons_succ]
          refine B.Till.next (i := 6) (o := { dst := some 15, op := Op.alloc 70, type := 0, pos := "roam.go:73", after := #[], guard := none }) (by kernel_rfl) rfl (fun K hK => ?_)
          go_simp
          refine hK.out _ _ (fun _ => hHeld.alloc hHeld.size _) ?_
          clear hK K
          try simp only [Act.put, List.setIfInBounds_toArray, List.set_cons_zero, List.set_cons_succ]
          refine B.Till.next (i := 7) (o := { dst := none, op := Op.store 70 (Operand.tmp 15) (Operand.tmp 30), type := 0, pos := "roam.go:73", after := #[{ on := 6, ground := Ground.data }, { on := 5, ground := Ground.data }, { on := 3, ground := Ground.chain }, { on := 0, ground := Ground.phase }, { on := 1, ground := Ground.phase }, { on := 2, ground := Ground.phase }, { on := 3, ground := Ground.phase }, { on := 4, ground := Ground.phase }, { on := 5, ground := Ground.phase }, { on := 6, ground := Ground.phase }], guard := none }) (by kernel_rfl) rfl (fun K hK => ?_)
          refine step_store_row rfl 70 (.tmp 15) (.tmp 30) rfl w1.heap.size #[.pointer (some ⟨p, 0, none⟩), .int .i64 u, .int .i64 g, .int .i64 (deepestI most), .bool all, .slice none 0 0, .slice none 0 0] rfl rfl 70 walkZ (heap_alloc_new _ _) sizeWalk rfl (walkC_one _ _ _ _ _) ?_
          refine hK.out _ _ (fun q => absurd rfl q) ?_
          clear hK K
          try simp only [Act.put, List.setIfInBounds_toArray, List.set_cons_zero, List.set_cons_succ]
          refine B.Till.done (by kernel_rfl) ?_
          go_wp2_with fail
          go_meet
          exact ⟨w1.heap.size, rfl, setRow_heap _ _ _ _ _ _ (heap_alloc_new _ _), below_setRow (hHeld.alloc hHeld.size _) (Nat.le_refl _) _, Nat.le_refl _⟩
        · go_simp
          refine hK.out _ _ (fun _ => hHeld.alloc hHeld.size _) ?_
          clear hK K
          try simp only [Act.put, List.setIfInBounds_toArray, List.set_cons_zero, List.set_cons_succ]
          have hH7 := hHeld.alloc hHeld.size (.cells walkZ 70)
          refine B.Till.next (i := 3) (o := { dst := some 28, op := Op.call { callee := Callee.value (Operand.func 23), args := #[Operand.tmp 27], argTypes := #[3] }, type := 3, pos := "roam.go:73", after := #[{ on := 2, ground := Ground.data }], guard := none }) (by kernel_rfl) rfl (fun K hK => ?_)
          go_simp
          refine (deepest_any most _).mono ?_
          rintro e w6 ⟨rfl, hw6⟩
          subst hw6
          go_wp2_with fail
          refine hK.out _ _ (fun _ => hH7) ?_
          clear hK K
          try simp only [Act.put, List.setIfInBounds_toArray, List.set_cons_zero, List.set_cons_succ]
          refine B.Till.take (i := 5) (oi := { dst := some 30, op := Op.build 70 #[(0, Operand.tmp 25), (1, Operand.tmp 26), (2, Operand.tmp 28), (3, Operand.tmp 29)], type := 70, pos := "roam.go:73", after := #[{ on := 0, ground := Ground.data }, { on := 1, ground := Ground.data }, { on := 3, ground := Ground.data }, { on := 4, ground := Ground.data }], guard := none }) (v := .agg #[.pointer (some ⟨p, 0, none⟩), .int .i64 u, .int .i64 g, .int .i64 (deepestI most), .bool all, .slice none 0 0, .slice none 0 0]) rfl (by kernel_rfl) (by kernel_rfl) (by kernel_rfl) (by kernel_rfl) (fun _ _ _ h => h) (Or.inl ⟨by rfl, fun w0 hS0 => ?_⟩) (by assumption) ?_
          · go_simp
          try simp only [Act.put, List.setIfInBounds_toArray, List.set_cons_zero, List.set_cons_succ]
          refine B.Till.next (i := 7) (o := { dst := none, op := Op.store 70 (Operand.tmp 15) (Operand.tmp 30), type := 0, pos := "roam.go:73", after := #[{ on := 6, ground := Ground.data }, { on := 5, ground := Ground.data }, { on := 3, ground := Ground.chain }, { on := 0, ground := Ground.phase }, { on := 1, ground := Ground.phase }, { on := 2, ground := Ground.phase }, { on := 3, ground := Ground.phase }, { on := 4, ground := Ground.phase }, { on := 5, ground := Ground.phase }, { on := 6, ground := Ground.phase }], guard := none }) (by kernel_rfl) rfl (fun K hK => ?_)
          refine step_store_row rfl 70 (.tmp 15) (.tmp 30) rfl w1.heap.size #[.pointer (some ⟨p, 0, none⟩), .int .i64 u, .int .i64 g, .int .i64 (deepestI most), .bool all, .slice none 0 0, .slice none 0 0] rfl rfl 70 walkZ (heap_alloc_new _ _) sizeWalk rfl (walkC_one _ _ _ _ _) ?_
          refine hK.out _ _ (fun q => absurd rfl q) ?_
          clear hK K
          try simp only [Act.put, List.setIfInBounds_toArray, List.set_cons_zero, List.set_cons_succ]
          refine B.Till.done (by kernel_rfl) ?_
          go_wp2_with fail
          go_meet
          exact ⟨w1.heap.size, rfl, setRow_heap _ _ _ _ _ _ (heap_alloc_new _ _), below_setRow hH7 (Nat.le_refl _) _, Nat.le_refl _⟩
-- TILL 1 END
      case rest =>
        obtain ⟨b, rfl, hxb, hbw, hbl⟩ := hcut
        have HXw := Lib.hid hxb
        have HBw := Lib.hid (HB1.out.trans (hbw.mono HB1.out.size))
        have HLw := Lib.hid (Nat.le_trans HB1.out.size hbl)
        clear hxb hbw hbl HB1 HCr
        go_wp2_with fail
        refine (HOv.out _ HBw.out).mono ?_
        rintro e w7 ⟨rfl, rfl⟩
        go_wp2_with (refine wpList_store_row rfl 42 (.tmp 16) (.tmp 36) rfl w7.heap.size (visC (atV T (firstV id name))).toArray rfl rfl _ _ (heap_alloc_new _ _) sizeVis rfl (all_oneCell_toArray (visC_one _)) ?_; rw [World.setRow_alloc_new])
        go_step3
        refine then_normal ?_
        apply_assumption
        have HB8 := Lib.hid ((Below.refl w7.heap.size w7).alloc (Nat.le_refl _) (.cells (visC (atV T (firstV id name))).toArray 42))
        have HX8 := Lib.hid (heap_alloc_new w7 (.cells (visC (atV T (firstV id name))).toArray 42))
        have HW8 := Lib.hid (show Wk W0 (w7.heap.size + 1) w7.heap.size (visC (atV T (firstV id name))).toArray b p u g (deepestI most) all [] [] (.slice none 0 0) (.slice none 0 0) (w7.alloc (.cells (visC (atV T (firstV id name))).toArray 42)) from
          ⟨(HB8.out.block _ (B.heap_lt HXw.out)).trans HXw.out, World.ownsRow_nil _ _ _ _, World.ownsRow_nil _ _ _ _, (fun x hx => by cases hx), HBw.out.trans (HB8.out.mono HBw.out.size), HLw.out, HX8.out, by omega, by have := HBw.out.size; omega, by simp⟩)
        refine visit_part HT (R := w7.heap.size + 1) (nb := w7.heap.size) (b := b) (L := L) (most := most) HBw.out.size hL2 (by rw [HLe.out]; exact HNm.out) HEn.out ⟨_, _, rfl, rfl⟩ _ _ ?jw (fun l2 a2 w2 h2 _ => B.hops_goto ⟨_, _, _, HBw.out.size, by have := HBw.out.size; omega, h2⟩) (fun a2 w2 h2 => B.hops_ret (ret_fin HL.out (by have := HBw.out.size; omega) a2 w2 h2))
        case jw =>
          unfold JW
          (repeat apply Exists.intro)
          refine ⟨?rel, rfl⟩
          case rel => exact ⟨[], [], _, _, _, rfl, HW8, Lib.hid ⟨trivial, fun x hx => by cases hx⟩, .inr ⟨rfl, firstV id name, rfl, Lib.hid ⟨rfl, by rw [HLe.out]; exact (List.append_nil _).symm⟩⟩⟩
  · have HNd := Lib.hid (fun W hb => HT.node id W hb)
    have HLe := Lib.hid (show L = [] from by rw [← hL]; unfold walkL; rw [if_neg hE0])
    clear hL
    have e1 : (E id != 0) = true := by simpa using hE0
    have HB0 := Lib.hid ((Below.refl W0.heap.size W0).alloc (Nat.le_refl _) (.cells #[.int .i64 u, .int .i64 g] 24))
    clear hE0
    refine B.wp_scope_hops (fun _ _ _ => False) (fun _ _ _ => 0) (fun _ _ _ h => h.elim) ?_
    go_upto_region 1 with fail
    generalize W0.alloc (.cells #[.int .i64 u, .int .i64 g] 24) = wa at HB0 ⊢
    go_wp2_with fail
    refine (HNd.out _ HB0.out).mono ?_
    rintro e wb ⟨n, rfl, hk, hb⟩
    have HBb := Lib.hid (HB0.out.trans (hb.mono HB0.out.size))
    clear hb hk HB0 HNd
    unfold P.nodeV
    go_wp2_with (refine wpList_store_row rfl 55 (.tmp 13) (.tmp 21) rfl wb.heap.size (nodeC n) rfl rfl _ _ (heap_alloc_new _ _) sizeNode rfl (nodeC_one n) ?_; rw [World.setRow_alloc_new])
    refine B.hops_ret ?_
    go_ret
    exact ⟨_, rfl, by rw [HL.out, HLe.out]; exact World.ownsRow_nil _ _ _ _, HBb.out.alloc HBb.out.size _⟩
end
end Go.Proofs.YtcjbnjoomgagjaaGreatDoor.G
namespace Go.Proofs.YtcjbnjoomgagjaaGreatDoor.G
open Go.RowKit
theorem ents_rows : ∀ l : List Ent, V.entCells l = rowsC enC' l
  | [] => rfl
  | x :: r => by
    show Value.string x.1 :: Value.int .i64 x.2 :: V.entCells r = _
    rw [ents_rows r]
    rfl
theorem list_kind (M : List V.Nd) (i : Int) : (V.kindM M i = 2 → V.listE M i = 0 ∨ V.listE M i = 8) ∧ (V.kindM M i ≠ 2 → V.listE M i = 2 ∨ V.listE M i = 3) := by
  unfold V.kindM V.nvAt V.listE
  cases V.atM M i with
  | none => exact ⟨fun h => absurd h (by decide), fun _ => .inl rfl⟩
  | some n =>
    refine ⟨fun h => ?_, fun h => ?_⟩
    · have h : n.kind = 2 := h
      dsimp only
      rw [if_pos h]
      split
      · exact .inr rfl
      · exact .inl rfl
    · have h : ¬ n.kind = 2 := h
      dsimp only
      rw [if_neg h]
      exact .inr rfl
theorem shownB_all : ∀ l : List Ent, l.filter (shownB true) = l := fun l => List.filter_eq_self.2 fun _ _ => rfl
theorem shownB_keep (l : List Ent) : l.filter (shownB false) = keepL l := rfl
theorem keep_few (l : List Ent) : (keepL l).length ≤ l.length := List.length_filter_le _ _
set_option maxRecDepth 100000 in
set_option maxHeartbeats 8000000 in
theorem pshown_any {v0 : World} {M : List V.Nd} {p : Nat} (u g i : Int) (all : Bool) (w : World) (hf : V.Has v0 p M w) (ht : P.Tab w) (hn : 0 < M.length) (hS : ∀ n ∈ M, n.ents.length ≤ 1000) (R : V.RI M) :
    Calls Tryz.prog 12 #[.pointer (some ⟨p, 0, none⟩), P.credV u g, .int .i64 i, .bool all] w fun e w' => ∃ v, e = .returned (.tuple #[v, .int .i64 (shownE M u g i)]) ∧ (shownE M u g i = 0 → w'.ownsRow w.heap.size 81 2 v (shownL M all i).length (rowsC enC' (shownL M all i))) ∧ (shownE M u g i ≠ 0 → v = .slice none 0 0) ∧ Below w.heap.size w w' := by
  have hE : V.FewE M := fun n hn => by have := hS n hn; omega
  have HNd := Lib.hid (fun W (hb : Below w.heap.size w W) => V.has_nodeI i (hf.keep hb) hn)
  have HLs := Lib.hid (fun W (hb : Below w.heap.size w W) => V.has_list i (hf.keep hb) hn hE)
  simp only [V.nodeV_nv, V.known_nv] at HNd
  simp only [ents_rows] at HLs
  have HLt := Lib.hid (list_sub R i)
  have HLl := Lib.hid (show (V.listL M i).length ≤ 1000 from by
    unfold V.listL
    cases ha : V.atM M i with
    | none => exact Nat.zero_le _
    | some n =>
      obtain ⟨k, _, hk⟩ := V.atM_some ha
      have := hS n (List.mem_of_getElem? hk)
      dsimp only
      repeat' split
      all_goals first | exact Nat.zero_le _ | exact this)
  have HK := Lib.hid (list_kind M i)
  have HSh := Lib.hid (show shownE M u g i = if V.listE M i = 2 ∨ V.listE M i = 3 then V.listE M i else if P.mayB (P.bitsP (V.nvAt M i) u g) 5 = true then V.listE M i else 5 from rfl)
  have HSl := Lib.hid (show shownL M all i = sortE ((V.listL M i).filter (shownB all)) from rfl)
  have HT := Lib.hid ht
  have HKd := Lib.hid (show V.kindM M i = (V.nvAt M i).kind from rfl)
  clear hf ht hE hS
  obtain ⟨N, hN⟩ : ∃ N, V.nvAt M i = N := ⟨_, rfl⟩
  obtain ⟨le, hle⟩ : ∃ le, V.listE M i = le := ⟨_, rfl⟩
  obtain ⟨ll, hll⟩ : ∃ ll, V.listL M i = ll := ⟨_, rfl⟩
  rw [hN] at HNd HKd HSh
  rw [HKd.out, hle] at HK
  rw [hle] at HLs HSh
  rw [hll] at HLs HLt HLl HSl
  clear hN hle hll HKd
  obtain ⟨se, hse⟩ : ∃ se, shownE M u g i = se := ⟨_, rfl⟩
  obtain ⟨sl, hsl⟩ : ∃ sl, shownL M all i = sl := ⟨_, rfl⟩
  rw [hse] at HSh ⊢
  rw [hsl] at HSl ⊢
  clear hse hsl
  unfold P.credV
  go_enter Tryz.func12, Tryz.ntmps12
  go_upto_region 1 with fail
  have HB0 := Lib.hid ((Below.refl w.heap.size w).alloc (Nat.le_refl _) (.cells #[.int .i64 u, .int .i64 g] 24))
  have HX0 := Lib.hid (heap_alloc_new w (.cells #[.int .i64 u, .int .i64 g] 24))
  generalize w.alloc (.cells #[.int .i64 u, .int .i64 g] 24) = wa at HB0 HX0 ⊢
  go_wp2_with fail
  refine (HNd.out _ HB0.out).mono ?_
  rintro e wb ⟨rfl, hb⟩
  have HBb := Lib.hid (HB0.out.trans (hb.mono HB0.out.size))
  have HXb := Lib.hid ((hb.block _ (B.heap_lt HX0.out)).trans HX0.out)
  clear hb HB0 HX0 HNd
  go_upto_region 2 with (refine wpList_store_row rfl 55 (.tmp 10) (.tmp 18) rfl wb.heap.size (nodeC N) rfl rfl _ _ (heap_alloc_new _ _) sizeNode rfl (nodeC_one N) ?_; rw [World.setRow_alloc_new])
  have HA1 := Lib.hid ((Below.refl wb.heap.size wb).alloc (Nat.le_refl _) (.cells (nodeC N) 55))
  have HN1 := Lib.hid (heap_alloc_new wb (.cells (nodeC N) 55))
  generalize wb.alloc (.cells (nodeC N) 55) = w1 at HA1 HN1 ⊢
  have HB1 := Lib.hid (HBb.out.trans (HA1.out.mono HBb.out.size))
  have HX1 := Lib.hid ((HA1.out.block _ (B.heap_lt HXb.out)).trans HXb.out)
  clear HA1 HXb HBb
  generalize wb.heap.size = bn at HN1 ⊢
  go_wp2_with fail
  refine (HLs.out _ HB1.out).mono ?_
  rintro e w2 ⟨lv, rfl, hown, hb⟩
  have HB2 := Lib.hid (HB1.out.trans (hb.mono HB1.out.size))
  have HN2 := Lib.hid ((hb.block _ (B.heap_lt HN1.out)).trans HN1.out)
  have HX2 := Lib.hid ((hb.block _ (B.heap_lt HX1.out)).trans HX1.out)
  have HO2 := Lib.hid hown
  have HLw2 := Lib.hid HB1.out.size
  clear hb hown HB1 HN1 HX1 HLs
  generalize w1.heap.size = bl at HO2 HLw2
  go_upto_region 3 with fail
  have c2 : w2.cell? ⟨bn, 2, none⟩ = some (.int .i64 N.kind) := by rw [cell_of_row _ _ _ _ _ _ HN2.out]; rfl
  by_cases hk : N.kind = 2
  · have k2 : (N.kind == 2) = true := by rw [hk]; rfl
    have hl0 := HK.out.1 hk
    have h23 : ¬ (le = 2 ∨ le = 3) := by omega
    rw [if_neg h23] at HSh
    have HL0 := Lib.hid hl0
    have n0 : w2.cell? ⟨bn, 0, none⟩ = some (.int .i64 N.dev) := by rw [cell_of_row _ _ _ _ _ _ HN2.out]; rfl
    have n1 : w2.cell? ⟨bn, 1, none⟩ = some (.int .i64 N.ino) := by rw [cell_of_row _ _ _ _ _ _ HN2.out]; rfl
    have n3 : w2.cell? ⟨bn, 3, none⟩ = some (.int .i64 N.mode) := by rw [cell_of_row _ _ _ _ _ _ HN2.out]; rfl
    have n4 : w2.cell? ⟨bn, 4, none⟩ = some (.int .i64 N.uid) := by rw [cell_of_row _ _ _ _ _ _ HN2.out]; rfl
    have n5 : w2.cell? ⟨bn, 5, none⟩ = some (.int .i64 N.gid) := by rw [cell_of_row _ _ _ _ _ _ HN2.out]; rfl
    have n6 : w2.cell? ⟨bn, 6, none⟩ = some (.int .i64 N.size) := by rw [cell_of_row _ _ _ _ _ _ HN2.out]; rfl
    have n7 : w2.cell? ⟨bn, 7, none⟩ = some (.int .i64 N.blocks) := by rw [cell_of_row _ _ _ _ _ _ HN2.out]; rfl
    have n8 : w2.cell? ⟨bn, 8, none⟩ = some (.int .i64 N.links) := by rw [cell_of_row _ _ _ _ _ _ HN2.out]; rfl
    have n9 : w2.cell? ⟨bn, 9, none⟩ = some (.int .i64 N.ta) := by rw [cell_of_row _ _ _ _ _ _ HN2.out]; rfl
    have n10 : w2.cell? ⟨bn, 10, none⟩ = some (.int .i64 N.tb) := by rw [cell_of_row _ _ _ _ _ _ HN2.out]; rfl
    have n11 : w2.cell? ⟨bn, 11, none⟩ = some (.int .i64 N.tc) := by rw [cell_of_row _ _ _ _ _ _ HN2.out]; rfl
    have n12 : w2.cell? ⟨bn, 12, none⟩ = some (.string N.target) := by rw [cell_of_row _ _ _ _ _ _ HN2.out]; rfl
    have x0 : w2.cell? ⟨w.heap.size, 0, none⟩ = some (.int .i64 u) := by rw [cell_of_row _ _ _ _ _ _ HX2.out]; rfl
    have x1 : w2.cell? ⟨w.heap.size, 1, none⟩ = some (.int .i64 g) := by rw [cell_of_row _ _ _ _ _ _ HX2.out]; rfl
    have HM := Lib.hid (P.may_any N u g 5 w2 (HT.out.keep HB2.out))
    rw [V.known_nv] at HM
    unfold P.credV at HM
    clear hk hl0 h23
    go_wp2_with fail
    refine HM.out.mono ?_
    rintro e w3 ⟨rfl, hb⟩
    have HB3 := Lib.hid (HB2.out.trans (hb.mono HB2.out.size))
    have HO3 := Lib.hid (B.owns_to HO2.out hb)
    clear hb HM HO2 HB2 HN2 HX2 c2 x0 x1 n0 n1 n3 n4 n5 n6 n7 n8 n9 n10 n11 n12
    cases hm : P.mayB (P.bitsP N u g) 5 with
    | false =>
      rw [hm] at HSh
      clear hm
      have HSe := Lib.hid (show se = 5 from HSh.out)
      go_wp2_with fail
      go_ret2
      exact ⟨_, by rw [HSe.out]; rfl, fun q => absurd (HSe.out.symm.trans q) (by decide), fun _ => rfl, HB3.out⟩
    | true =>
      rw [hm] at HSh
      clear hm
      have HSe := Lib.hid (show se = le from HSh.out)
      clear HSh
      rcases HL0.out with h0 | h8
      · subst h0
        have HDf := Lib.hid HLt.out.1
        have HNm := Lib.hid (show ∀ e ∈ ll, e.1.size ≤ 60000 from fun e he => by have := (V.goodB_parts (HLt.out.2 e he).1).2.1; omega)
        cases all with
        | true =>
          clear HLt
          have HSo := Lib.hid (sorted_any _ ll bl w3 HO3.out HLl.out HDf.out HNm.out)
          go_wp2_with fail
          refine HSo.out.mono ?_
          rintro e w5 ⟨v5, rfl, hown, hb⟩
          have HO5 := Lib.hid (owns_lower hown (Nat.le_trans (Nat.le_refl _) HB3.out.size))
          have HB5 := Lib.hid (HB3.out.trans (hb.mono HB3.out.size))
          clear hown hb HSo
          go_wp2_with fail
          go_ret2
          exact ⟨_, by rw [HSe.out]; rfl, fun _ => by rw [HSl.out, shownB_all]; exact HO5.out, fun q => absurd HSe.out q, HB5.out⟩
        | false =>
          have HDl := Lib.hid (delete_any lv ll bl w w3 HO3.out (by have := HLl.out; omega) HLw2.out HB3.out)
          clear HLt
          go_wp2_with fail
          refine HDl.out.mono ?_
          rintro e w4 ⟨u4, rfl, hown4, hb4⟩
          have HO4 := Lib.hid hown4
          have HB4 := Lib.hid hb4
          clear hown4 hb4 HDl HO3 HB3
          have HSo := Lib.hid (sorted_any _ (keepL ll) bl w4 HO4.out (Nat.le_trans (keep_few ll) HLl.out) (List.Pairwise.filter _ HDf.out) (fun e he => HNm.out e (List.mem_filter.1 he).1))
          go_wp2_with fail
          refine HSo.out.mono ?_
          rintro e w5 ⟨v5, rfl, hown, hb⟩
          have HO5 := Lib.hid (owns_lower hown (Nat.le_trans (Nat.le_refl _) HB4.out.size))
          have HB5 := Lib.hid (HB4.out.trans (hb.mono HB4.out.size))
          clear hown hb HSo
          go_wp2_with fail
          go_ret2
          exact ⟨_, by rw [HSe.out]; rfl, fun _ => by rw [HSl.out, shownB_keep]; exact HO5.out, fun q => absurd HSe.out q, HB5.out⟩
      · have h1 : (le != 0) = true := by rw [h8]; rfl
        have HE := Lib.hid (show se = le ∧ le ≠ 0 from ⟨HSe.out, by omega⟩)
        clear h8
        go_wp2_with fail
        go_ret2
        exact ⟨_, by rw [HE.out.1]; rfl, fun q => absurd (HE.out.1.symm.trans q) HE.out.2, fun _ => rfl, HB3.out⟩
  · have k2 : (N.kind == 2) = false := beq_eq_false_iff_ne.2 hk
    have hl0 := HK.out.2 hk
    have h1 : (le != 0) = true := by rcases hl0 with h | h <;> (rw [h]; rfl)
    have HE := Lib.hid (show se = le ∧ le ≠ 0 from ⟨by rw [HSh.out, if_pos hl0], by rcases hl0 with h | h <;> omega⟩)
    clear hl0 hk
    go_wp2_with fail
    go_ret2
    exact ⟨_, by rw [HE.out.1]; rfl, fun q => absurd (HE.out.1.symm.trans q) HE.out.2, fun _ => rfl, HB2.out⟩
end Go.Proofs.YtcjbnjoomgagjaaGreatDoor.G
