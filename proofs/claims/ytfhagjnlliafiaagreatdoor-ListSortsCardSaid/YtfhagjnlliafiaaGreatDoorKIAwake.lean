/-
 What few changes make is what the walks of a list ask.
 Conditions: each fact's own.
-/
import Derived.Test.YtfhagjnlliafiaaGreatDoorKVArg
import Derived.Test.YtfhagjnlliafiaaGreatDoorKIRows
import Derived.Test.YtfhagjnlliafiaaGreatDoorKITab
set_option linter.unusedSimpArgs false
set_option linter.unusedVariables false
set_option maxHeartbeats 8000000
set_option maxRecDepth 100000
open List renaming setIfInBounds_toArray → lt, set_cons_zero → l0, set_cons_succ → ls
open Go.Act renaming put → u
namespace Go.Proofs.YtfhagjnlliafiaaGreatDoor.I
theorem do_pos {M : List V.Nd} {c : V.Chg} (h : 0 < M.length) : 0 < (V.doM M c).length := by
 unfold V.doM
 split
 ·unfold V.carryM V.builtM V.coveredM
  repeat' split
  all_goals (try simp)
  all_goals omega
 ·exact h
theorem runM_pos : ∀ (cs : List V.Chg) (M : List V.Nd), 0 < M.length → 0 < (V.runM cs M).length
 | [], M, h => h
 | c :: r, M, h => runM_pos r (V.doM M c) (do_pos h)
theorem runM_ov : ∀ (cs : List V.Chg) (M : List V.Nd), OvM M → OvM (V.runM cs M)
 | [], M, h => h
 | c :: r, M, h => runM_ov r (V.doM M c) (ov_do h)
theorem runM_ok : ∀ (cs : List V.Chg) (M : List V.Nd), (∀ c ∈ cs, I64 c.n ∧ c.text.size ≤ 5000) → OkM M → OkM (V.runM cs M)
 | [], M, _, h => h
 | c :: r, M, hc, h => runM_ok r (V.doM M c) (fun x hx => hc x (List.mem_cons_of_mem _ hx)) (ok_do h (hc c List.mem_cons_self).1 (hc c List.mem_cons_self).2)
theorem few_text {cs : List V.Chg} (h : V.FewL cs) (hl : cs.length ≤ 400) : ∀ c ∈ cs, c.text.size ≤ 5000 := fun c hc => by
 obtain ⟨k, hk, e⟩ := List.getElem_of_mem hc
 exact (h k c (by omega) (by rw [← e]; exact List.getElem?_eq_getElem hk)).2
theorem goodI_run (cs : List V.Chg) (hl : cs.length ≤ 400) (hf : V.FewL cs) (hn : ∀ c ∈ cs, I64 c.n) : GoodI (V.runM cs V.newM) :=
 ⟨runM_pos cs V.newM (by decide), (V.runM_small cs V.newM 0 V.new_small).1, runM_ov cs V.newM ov_new, runM_ok cs V.newM (fun c hc => ⟨hn c hc, few_text hf hl c hc⟩) ok_new⟩
def OwnM (M : List V.Nd) : Prop := ∀ n ∈ M, I64 n.uid ∧ I64 n.gid
theorem own_zero : I64 0 ∧ I64 0 := ⟨⟨by decide, by decide⟩, ⟨by decide, by decide⟩⟩
theorem own_app {M : List V.Nd} {n : V.Nd} (h : OwnM M) (hn : I64 n.uid ∧ I64 n.gid) : OwnM (M ++ [n]) := fun x hx => by
 rcases List.mem_append.1 hx with hx | hx
 ·exact h x hx
 ·obtain rfl := List.mem_singleton.1 hx; exact hn
theorem own_built {M : List V.Nd} {i : Nat} {s : ByteArray} {n : V.Nd} {d : Int} (h : OwnM M) (hn : I64 n.uid ∧ I64 n.gid) : OwnM (V.builtM M i s n d) :=
 all_modify (all_modify (own_app (n := V.addedNd n d M) h hn) fun _ q => q) fun _ q => q
theorem max_bd {x : Int} (h : I64 x) : I64 (V.maxI x 0) := by
 obtain ⟨h0, h1⟩ := h
 unfold I64 V.maxI
 split <;> omega
theorem own_do {M : List V.Nd} {c : V.Chg} (h : OwnM M) (ha : I64 c.a) (hb : I64 c.b) : OwnM (V.doM M c) := by
 unfold V.doM
 split
 ·unfold V.carryM
  split
  ·exact own_built h own_zero
  ·split
   ·exact own_built h own_zero
   ·split
    ·exact all_modify (all_modify h fun _ q => q) fun _ q => q
    ·split
     ·exact own_built h own_zero
     ·split
      ·exact all_modify (own_app h own_zero) fun _ q => q
      ·refine all_modify h fun n q => ?_
       unfold V.setNd
       repeat' split
       all_goals first
        | exact q
        | exact ⟨max_bd ha, max_bd hb⟩
 ·exact h
theorem runM_own : ∀ (cs : List V.Chg) (M : List V.Nd), (∀ c ∈ cs, I64 c.a ∧ I64 c.b) → OwnM M → OwnM (V.runM cs M)
 | [], M, _, h => h
 | c :: r, M, hc, h => runM_own r (V.doM M c) (fun x hx => hc x (List.mem_cons_of_mem _ hx)) (own_do h (hc c List.mem_cons_self).1 (hc c List.mem_cons_self).2)
theorem own_new : OwnM V.newM := fun n hn => by
 obtain rfl : n = V.addedNd (V.dirNd 493 0) 1 [] := by simpa [V.newM] using hn
 exact own_zero
theorem nums_run (cs : List V.Chg) (hl : cs.length ≤ 400) (hG : GoodI (V.runM cs V.newM)) (hc : ∀ c ∈ cs, I64 c.a ∧ I64 c.b) : ∀ i, OkR (V.nvAt (V.runM cs V.newM) i) := fun i => by
 have hs := V.runM_small cs V.newM 0 V.new_small
 have hd := V.runM_dev cs V.newM V.devInv_new
 have ho := runM_own cs V.newM hc own_new
 have hv := hG.val i
 generalize V.runM cs V.newM = M at hs hd ho hv hG ⊢
 refine ⟨hv, ?_, ?_, ?_, ?_⟩
 all_goals
  unfold V.nvAt
  split
  ·exact ⟨(by decide : (-9223372036854775808 : Int) ≤ 0), (by decide : (0 : Int) ≤ 9223372036854775807)⟩
  ·rename_i n hn
   obtain ⟨k, _, hk⟩ := V.atM_some hn
   have hm := List.mem_of_getElem? hk
   have h1 := (hd k n hk).2.2.1
   have h2 := V.cntD_bd n.dev (M.take k)
   have h3 := hs.2 n hm
   have h4 := ho n hm
   have h5 := hG.few
   have h6 : (M.take k).length ≤ 300 := by rw [List.length_take]; omega
   first
    | exact h4.1
    | exact h4.2
    | (show I64 n.ino; unfold I64; omega)
    | (show I64 n.links; unfold I64; omega)
end Go.Proofs.YtfhagjnlliafiaaGreatDoor.I
namespace Go.Proofs.YtfhagjnlliafiaaGreatDoor.V
open Go.RowKit Go.BigFrame
def MadeRel (cs : List Chg) (w : World) (p B5 : Nat) (v : Value) (wr : World) : Prop := ∃ (k : Nat) (L : List It) (r : Rv), k ≤ cs.length ∧ v = .int .i64 (k : Int) ∧ L.length ≤ k ∧ Hid (Twin w p (runM (cs.take k) newM) L r wr) ∧
 wr.heap[w.heap.size]? = some (.cells nilsR 36 (0, 0)) ∧ wr.heap[B5]? = some (.cells #[r.n, r.l, r.c, r.d, r.a, r.f] 36 (0, 0))
def MadeMid (w5 : World) (M : List Nd) (c : Chg) (L : List It) (B7 : Nat) (W : World) : Prop := ∃ (r : Rv) (L' : List It), W.heap[B7]? = some (.cells #[r.n, r.l, r.c, r.d, r.a, r.f] 36 (0, 0)) ∧ Rs (doM M c) L' r W ∧ Rel (doM M c) L' ∧ L'.length ≤ L.length + 1 ∧ Below w5.heap.size w5 W ∧ w5.heap.size ≤ B7
theorem rs_one {M : List Nd} {L : List It} {v : Rv} {w : World} (h : Rs M L v w) : (#[v.n, v.l, v.c, v.d, v.a, v.f] : Array Value).all (·.oneCell') = true := rv_one (rown_rs h)
theorem But.from {b B : Nat} {w0 w w' : World} (h : But b w w') (h0 : Below B w0 w) (hB : B ≤ b) (hw : B ≤ w.heap.size) : Below B w0 w' := h.below h0 hB hw
theorem runM_pos : ∀ (cs : List Chg) (M : List Nd), 0 < M.length → 0 < (runM cs M).length
 | [], M, h => h
 | c :: r, M, h => runM_pos r (doM M c) (len_do h)
theorem Has.but {w0 w w' : World} {p b : Nat} {M : List Nd} (h : Has w0 p M w) (g : But b w w') {cs : Array Value} (hb : w.heap[b]? = some (.cells cs 36 (0, 0))) (hB : w0.heap.size ≤ b) : Has w0 p M w' := by
 obtain ⟨h, h1, h2, H, hb1, hf⟩ := h
 refine ⟨h, h1, h2, H.at (fun k hk => g.block k (H.lt hk) ?_), g.below hb1 hB hb1.size, hf⟩
 rintro rfl
 obtain ⟨cur, T, hc, hT⟩ := foot_type H hk
 rw [hb] at hc
 simp only [Option.some.injEq, Obj.cells.injEq, and_true] at hc
 obtain ⟨_, rfl⟩ := hc
 revert hT
 decide
theorem results_made {tmps : Array Value} {w : World} {g : Nat} {p' : Value} {cs : Array Value} {T : TypeId} {fr : Nat × Nat} (h2 : tmps.getD 2 undef = p') (h3 : tmps.getD 3 undef = .pointer (some ⟨g, 0, none⟩)) (hg : w.heap[g]? = some (.cells cs T fr)) (hs : cs.size = 6) :
  (results Tryz.f7 tmps).run Tryz.prog w = .ok (.tuple #[p', .agg cs]) w := by
 have hp' : tmps[3]?.getD undef = .pointer (some ⟨g, 0, none⟩) := by simpa using h3
 have hp2 : tmps[2]?.getD undef = p' := by simpa using h2
 have hl := run_loadVar_row (P := Tryz.prog) w g T 36 cs fr _ hg Tryz.underlying36 rfl (by rw [sizeRef, hs])
 simp [results, hp', hp2, asAddr, hl]
theorem Has.from {w0 w1 w : World} {p : Nat} {M : List Nd} (h : Has w1 p M w) (hb : Below w0.heap.size w0 w1) : Has w0 p M w := by
 obtain ⟨h, h1, h2, H, hb1, hf⟩ := h
 exact ⟨h, h1, h2, H, below_two hb hb1, fun k hk => Nat.le_trans hb.size (hf k hk)⟩
theorem made_any (cs : List Chg) (a : Option Addr) (cap : Nat) (w : World) (H : IsChgs w a cs) (hl : cs.length ≤ 400) (hf : FewL cs) (hn : ∀ c ∈ cs, -9223372036854775808 ≤ c.n ∧ c.n ≤ 9223372036854775807) :
  Calls Tryz.prog 7 #[.slice a cs.length cap] w fun e w' => ∃ p r L, e = .returned (.tuple #[.pointer (some ⟨p, 0, none⟩), rvV r]) ∧ Twin w p (runM cs newM) L r w' ∧ L.length ≤ cs.length := by
 have HH := Lib.hid H
 have HF := Lib.hid hf
 have HN := Lib.hid hn
 clear H hf hn
 have q0 := heap_alloc_new w (.cells nilsR 36)
 have B0 := (Below.refl w.heap.size w).alloc (Nat.le_refl _) (.cells nilsR 36)
 have HQ0 := Lib.hid q0
 have HB0 := Lib.hid B0
 unfold nilsR at q0 B0
 go_enter Tryz.func7, Tryz.ntmps7
 go_upto_region 2 with (first
  | (go_at_call 15; refine (new_any _).mono ?_; rintro e w2 ⟨p, rfl, H2⟩; have HP2 := Lib.hid (H2.from HB0.out); have HQ2 := Lib.hid (box_keep2 HQ0.out H2.below); clear H2 q0 B0)
  | (go_at_call 17; refine (rnew_any _).mono ?_; rintro e w3 ⟨v3, rfl, ho3, hb3⟩; have HT3 := Lib.hid (show Twin w p newM [] v3 w3 from ⟨HP2.out.keep hb3, rs_new ho3, rel_new⟩); have HQ3 := Lib.hid (box_keep2 HQ2.out hb3); have HN3 := Lib.hid (rv_one ho3); clear ho3 hb3)
  | (refine wpList_store_row rfl 36 (.tmp 5) (.tmp 11) rfl w3.heap.size #[v3.n, v3.l, v3.c, v3.d, v3.a, v3.f] rfl rfl 36 nilsR (heap_alloc_new _ _) sizeRef rfl HN3.out ?_; rw [World.setRow_alloc_new]))
 have HB4 := Lib.hid (show Below w3.heap.size w3 (w3.alloc (.cells #[v3.n, v3.l, v3.c, v3.d, v3.a, v3.f] 36)) from (Below.refl _ _).alloc (Nat.le_refl _) _)
 have HQ4 := Lib.hid (heap_alloc_new w3 (.cells #[v3.n, v3.l, v3.c, v3.d, v3.a, v3.f] 36))
 have HBW := Lib.hid (show Below w.heap.size w (w3.alloc (.cells #[v3.n, v3.l, v3.c, v3.d, v3.a, v3.f] 36)) from (HT3.out.keep HB4.out).fs.below)
 generalize w3.alloc (.cells #[v3.n, v3.l, v3.c, v3.d, v3.a, v3.f] 36) = w4 at HB4 HQ4 HBW ⊢
 have HR0 := Lib.hid (show MadeRel cs w p w3.heap.size (.int .i64 0) w4 from ⟨0, [], v3, Nat.zero_le _, rfl, Nat.zero_le _, Lib.hid (HT3.out.keep HB4.out), box_keep2 HQ3.out HB4.out, HQ4.out⟩)
 have HLT := Lib.hid (heap_lt HQ3.out)
 generalize w3.heap.size = B5 at HR0 HQ4 HLT ⊢
 go_wp2_with fail
 go_loopw [6] (MadeRel cs w p B5) (fun v _ => cs.length - (intOf v).toNat)
 case atStart => exact HR0.out
 case round =>
  obtain ⟨k, L, r, hk, rfl, hL, HT, hq, hb⟩ := hrel
  have HQ := Lib.hid hq
  have HBX := Lib.hid hb
  clear hq hb
  by_cases hlt : k < cs.length
  ·have d1 : decide ((k : Int) < (cs.length : Int)) = true := decide_eq_true (by omega)
   obtain ⟨c, hc⟩ : ∃ c, cs[k]? = some c := ⟨_, List.getElem?_eq_getElem hlt⟩
   obtain ⟨g, o, rfl, hr⟩ := (HH.out.keep HT.out.fs.below).at_ hc
   have HR := Lib.hid (show ∀ W, Below w.heap.size w W → W.rangeAt g (o + k * 8) (chgL c) from fun W hW => by
    obtain ⟨g', o', e, h⟩ := (HH.out.keep hW).at_ hc
    cases e
    exact h)
   have HRW := Lib.hid hr
   have HC := Lib.hid hc
   have HK := Lib.hid (runM_take hc newM)
   obtain ⟨n1, n2⟩ := HN.out c (List.mem_of_getElem? hc)
   obtain ⟨s1, s2⟩ := HF.out k c (by omega) hc
   have HSM := Lib.hid (show Small (runM (cs.take k) newM) k from by
    have := runM_small (cs.take k) newM 0 new_small
    rwa [List.length_take, Nat.min_eq_left hk, Nat.zero_add] at this)
   have HDV := Lib.hid (runM_dev (cs.take k) newM devInv_new)
   have HM0 := Lib.hid (runM_pos (cs.take k) newM (by decide))
   clear hr hc
   generalize runM (cs.take k) newM = M at HT HK HSM HDV HM0
   have HCV := Lib.hid (show chgV c = .agg (chgL c).toArray from rfl)
   have HD := Lib.hid (has_do_keeps (c := c) HT.out.fs HSM.out (by omega) HM0.out ⟨n1, n2⟩)
   go_upto_region 6 with (first
    | (refine wpList_load_mid rfl 56 (.tmp 21) rfl g (o + k * 8) rfl (chgL c) _ HRW.out Tryz.underlying56 rfl sizeChg ?_)
    | (go_at_call 18; rw [← HCV.out]; refine HD.out.mono ?_; rintro e w5 ⟨rfl, H5, K5, z5⟩; have HH5 := Lib.hid H5; have HK5 := Lib.hid K5; clear H5 K5))
   have HW5 := Lib.hid HH5.out.below
   have HB5 := Lib.hid (HK5.out B5 _ _ HBX.out (by decide) (by decide) (by decide))
   have HQ5 := Lib.hid (HK5.out _ _ _ HQ.out (by decide) (by decide) (by decide))
   have HS5 := Lib.hid (HK5.out.rs HT.out.rs)
   have HFc := Lib.hid (show ∀ W, Below w5.heap.size w5 W → W.cell? ⟨B5, 0, none⟩ = some r.n ∧ W.cell? ⟨B5, 1, none⟩ = some r.l ∧ W.cell? ⟨B5, 2, none⟩ = some r.c ∧ W.cell? ⟨B5, 3, none⟩ = some r.d ∧ W.cell? ⟨B5, 4, none⟩ = some r.a ∧ W.cell? ⟨B5, 5, none⟩ = some r.f from fun W hW => by
    have q := box_keep2 HB5.out hW
    refine ⟨?_, ?_, ?_, ?_, ?_, ?_⟩ <;> (rw [cell_of_row _ _ _ _ _ _ q]; rfl))
   have HCc := Lib.hid (show ∀ W, Below w5.heap.size w5 W → W.cell? ⟨g, o + k * 8, none⟩ = some (.int .i64 c.kind) ∧ W.cell? ⟨g, o + k * 8 + 1, none⟩ = some (.int .i64 c.at_) ∧ W.cell? ⟨g, o + k * 8 + 2, none⟩ = some (.int .i64 c.to) ∧ W.cell? ⟨g, o + k * 8 + 3, none⟩ = some (.string c.name) ∧ W.cell? ⟨g, o + k * 8 + 4, none⟩ = some (.string c.text) ∧ W.cell? ⟨g, o + k * 8 + 5, none⟩ = some (.int .i64 c.a) ∧ W.cell? ⟨g, o + k * 8 + 6, none⟩ = some (.int .i64 c.b) ∧ W.cell? ⟨g, o + k * 8 + 7, none⟩ = some (.int .i64 c.n) from fun W hW => by
    have q := HR.out W (below_two HW5.out hW)
    exact ⟨q 0 _ rfl, q 1 _ rfl, q 2 _ rfl, q 3 _ rfl, q 4 _ rfl, q 5 _ rfl, q 6 _ rfl, q 7 _ rfl⟩)
   have HRD := Lib.hid (show ∀ W, Below w5.heap.size w5 W → Calls Tryz.prog 19 #[.agg #[r.n, r.l, r.c, r.d, r.a, r.f], chgV c] W (RDoP M L c W) from fun W hW => rdo_any M L r c W (HS5.out.keep hW) HT.out.rel HDV.out (by have := HSM.out.1; omega) (by omega) HM0.out (by omega) (by omega) n2)
   go_cut [7, 8, 9] from 24 to 34 (fun a7 a8 a9 wx => ∃ B7, a7 = .pointer (some ⟨B7, 0, none⟩) ∧ MadeMid w5 M c L B7 wx)
   case first =>
    refine Till.region (z := 13) (S := fun w' => Below w5.heap.size w5 w') (by kernel_rfl) ((Below.refl _ _).drew) (fun hHeld => ?_)
    refine Till.tz 0 (.agg #[r.n, r.l, r.c, r.d, r.a, r.f]) rfl (fun w0 hS0 => ?_) ?_
    ·obtain ⟨c0, c1, c2, c3, c4, c5⟩ := HFc.out _ hS0; go_simp
    try simp only [u, lt, l0, ls]
    refine Till.tz 1 (.slice (some ⟨g, o, none⟩) cs.length cap) rfl (fun w0 hS0 => ?_) ?_
    ·go_simp
    try simp only [u, lt, l0, ls]
    refine Till.tz 2 (.int .i64 (k : Int)) rfl (fun w0 hS0 => ?_) ?_
    ·go_simp
    try simp only [u, lt, l0, ls]
    refine Till.tz 3 (.pointer (some ⟨g, o + k * 8, none⟩)) rfl (fun w0 hS0 => ?_) ?_
    ·go_simp
    try simp only [u, lt, l0, ls]
    refine Till.tz 4 (chgV c) rfl (fun w0 hS0 => ?_) ?_
    ·obtain ⟨c0, c1, c2, c3, c4, c5, c6, c7⟩ := HCc.out _ hS0; unfold chgV; go_simp
    try simp only [u, lt, l0, ls]
    refine Till.two (i := 5) (j := 10) (by kernel_rfl) rfl rfl (fun K hK => ?_) (fun K hK => ?_)
    ·go_simp
     refine (HRD.out _ (hHeld)).mono ?_
     rintro e w6 ⟨r', L', rfl, R6, E6, l6, b6⟩
     have HR6 := Lib.hid R6
     have HN6 := Lib.hid (rs_one R6)
     have HE6 := Lib.hid E6
     have HB6 := Lib.hid (below_two (hHeld) b6)
     clear R6 E6 b6
     go_wp2_with fail
     refine hK.out _ _ (fun _ => HB6.out) ?_
     clear hK K
     have hHeld6 := HB6.out
     try simp only [u, lt, l0, ls]
     refine Till.tz 6 (.tuple #[rvV r', .int .i64 (doR M c), .int .i64 (wrongM M c)]) rfl (fun w0 hS0 => ?_) ?_
     ·go_simp
     try simp only [u, lt, l0, ls]
     refine Till.tz 7 (rvV r') rfl (fun w0 hS0 => ?_) ?_
     ·go_simp
     try simp only [u, lt, l0, ls]
     refine Till.tz 8 (.int .i64 (doR M c)) rfl (fun w0 hS0 => ?_) ?_
     ·go_simp
     try simp only [u, lt, l0, ls]
     refine Till.tz 9 (.int .i64 (wrongM M c)) rfl (fun w0 hS0 => ?_) ?_
     ·go_simp
     try simp only [u, lt, l0, ls]
     refine Till.tn 10 rfl fun K hK => ?_
     go_simp
     refine hK.out _ _ (fun _ => HB6.out.alloc HB6.out.size _) ?_
     clear hK K
     have hHeld7 := HB6.out.alloc HB6.out.size (.cells nilsR 36)
     have HBt := Lib.hid (but_setRow (heap_alloc_new w6 (.cells nilsR 36)) #[r'.n, r'.l, r'.c, r'.d, r'.a, r'.f])
     try simp only [u, lt, l0, ls]
     refine Till.tn 11 rfl fun K hK => ?_
     refine step_store_row rfl 36 (.tmp 7) (.tmp 31) rfl (w6.heap.size) #[r'.n, r'.l, r'.c, r'.d, r'.a, r'.f] rfl rfl 36 nilsR (heap_alloc_new _ _) sizeRef rfl HN6.out ?_
     refine hK.out _ _ (fun _ => HBt.out.from hHeld7 HB6.out.size hHeld7.size) ?_
     clear hK K
     try simp only [u, lt, l0, ls]
     refine Till.tn 12 rfl fun K hK => ?_
     go_simp
     refine hK.out _ _ (fun _ => HBt.out.from hHeld7 HB6.out.size hHeld7.size) ?_
     clear hK K
     try simp only [u, lt, l0, ls]
     refine Till.tn 13 rfl fun K hK => ?_
     go_simp
     refine hK.out _ _ (fun q => absurd rfl q) ?_
     clear hK K
     try simp only [u, lt, l0, ls]
     refine Till.done (by kernel_rfl) ?_
     go_wp2_with fail
     go_meet
     exact ⟨_, rfl, r', L', setRow_heap _ _ _ _ _ _ (heap_alloc_new _ _), HBt.out.rs (heap_alloc_new _ _) (HR6.out.keep ((Below.refl _ _).alloc (Nat.le_refl _) _)), HE6.out, l6, HBt.out.from hHeld7 HB6.out.size hHeld7.size, HB6.out.size⟩
    ·go_simp
     refine hK.out _ _ (fun _ => hHeld.alloc hHeld.size _) ?_
     clear hK K
     have hHeld7 := hHeld.alloc hHeld.size (.cells nilsR 36)
     have HQ7 := Lib.hid (heap_alloc_new w5.drew (.cells nilsR 36))
     try simp only [u, lt, l0, ls]
     refine Till.tn 5 rfl fun K hK => ?_
     go_simp
     refine (HRD.out _ (hHeld7)).mono ?_
     rintro e w6 ⟨r', L', rfl, R6, E6, l6, b6⟩
     have HR6 := Lib.hid R6
     have HN6 := Lib.hid (rs_one R6)
     have HE6 := Lib.hid E6
     have HB6 := Lib.hid (below_two (hHeld7) b6)
     have HQ8 := Lib.hid (box_keep2 HQ7.out b6)
     have HBt := Lib.hid (but_setRow HQ8.out #[r'.n, r'.l, r'.c, r'.d, r'.a, r'.f])
     clear R6 E6 b6
     go_wp2_with fail
     refine hK.out _ _ (fun _ => HB6.out) ?_
     clear hK K
     have hHeld6 := HB6.out
     try simp only [u, lt, l0, ls]
     refine Till.tz 6 (.tuple #[rvV r', .int .i64 (doR M c), .int .i64 (wrongM M c)]) rfl (fun w0 hS0 => ?_) ?_
     ·go_simp
     try simp only [u, lt, l0, ls]
     refine Till.tz 7 (rvV r') rfl (fun w0 hS0 => ?_) ?_
     ·go_simp
     try simp only [u, lt, l0, ls]
     refine Till.tz 8 (.int .i64 (doR M c)) rfl (fun w0 hS0 => ?_) ?_
     ·go_simp
     try simp only [u, lt, l0, ls]
     refine Till.tz 9 (.int .i64 (wrongM M c)) rfl (fun w0 hS0 => ?_) ?_
     ·go_simp
     try simp only [u, lt, l0, ls]
     refine Till.tn 11 rfl fun K hK => ?_
     refine step_store_row rfl 36 (.tmp 7) (.tmp 31) rfl (w5.drew.heap.size) #[r'.n, r'.l, r'.c, r'.d, r'.a, r'.f] rfl rfl 36 nilsR (HQ8.out) sizeRef rfl HN6.out ?_
     refine hK.out _ _ (fun _ => HBt.out.from hHeld6 hHeld.size hHeld6.size) ?_
     clear hK K
     try simp only [u, lt, l0, ls]
     refine Till.tn 12 rfl fun K hK => ?_
     go_simp
     refine hK.out _ _ (fun _ => HBt.out.from hHeld6 hHeld.size hHeld6.size) ?_
     clear hK K
     try simp only [u, lt, l0, ls]
     refine Till.tn 13 rfl fun K hK => ?_
     go_simp
     refine hK.out _ _ (fun q => absurd rfl q) ?_
     clear hK K
     try simp only [u, lt, l0, ls]
     refine Till.done (by kernel_rfl) ?_
     go_wp2_with fail
     go_meet
     exact ⟨_, rfl, r', L', setRow_heap _ _ _ _ _ _ HQ8.out, HBt.out.rs HQ8.out HR6.out, HE6.out, l6, HBt.out.from hHeld6 hHeld.size hHeld6.size, hHeld.size⟩
   case rest =>
    obtain ⟨B7, rfl, r', L', hb7, R7, E7, l7, bel7, ge7⟩ := hcut
    have HN7 := Lib.hid (rs_one R7)
    have HR7 := Lib.hid R7
    have HE7 := Lib.hid E7
    have HL7 := Lib.hid hb7
    have HBL := Lib.hid bel7
    have hb5 := box_keep2 HB5.out bel7
    have HX5 := Lib.hid hb5
    have HQ7 := Lib.hid (box_keep2 HQ5.out bel7)
    have HBt := Lib.hid (but_setRow hb5 #[r'.n, r'.l, r'.c, r'.d, r'.a, r'.f])
    clear R7 E7 hb7 bel7 hb5
    go_wp2_with (first
     | (refine wpList_load_row rfl 36 (.tmp 7) rfl B7 rfl _ _ _ _ HL7.out Tryz.underlying36 rfl (by rw [sizeRef]; rfl) ?_)
     | (refine wpList_store_row rfl 36 (.tmp 5) (.tmp 34) rfl B5 #[r'.n, r'.l, r'.c, r'.d, r'.a, r'.f] rfl rfl 36 _ HX5.out sizeRef rfl HN7.out ?_))
    go_roundw
    case rel =>
     refine ⟨k + 1, L', r', by omega, by simp, by omega, Lib.hid ⟨?_, ?_, ?_⟩, ?_, setRow_heap _ _ _ _ _ _ HX5.out⟩
     ·rw [HK.out]; exact (HH5.out.keep HBL.out).but HBt.out HX5.out (by have := HLT.out; omega)
     ·rw [HK.out]; exact HBt.out.rs HX5.out HR7.out
     ·rw [HK.out]; exact HE7.out
     ·exact (HBt.out.block _ (heap_lt HQ7.out) (by have := HLT.out; omega)).trans HQ7.out
    case measure => simp [intOf]; omega
  ·have d1 : decide ((k : Int) < (cs.length : Int)) = false := decide_eq_false (by omega)
   obtain rfl : k = cs.length := by omega
   have HTK := Lib.hid (show Twin w p (runM cs newM) L r wr from by have := HT.out; rwa [List.take_length] at this)
   have HF8 := Lib.hid (show ∀ W, Below wr.heap.size wr W → W.cell? ⟨B5, 0, none⟩ = some r.n ∧ W.cell? ⟨B5, 1, none⟩ = some r.l ∧ W.cell? ⟨B5, 2, none⟩ = some r.c ∧ W.cell? ⟨B5, 3, none⟩ = some r.d ∧ W.cell? ⟨B5, 4, none⟩ = some r.a ∧ W.cell? ⟨B5, 5, none⟩ = some r.f from fun W hW => by
    have q := box_keep2 HBX.out hW
    refine ⟨?_, ?_, ?_, ?_, ?_, ?_⟩ <;> (rw [cell_of_row _ _ _ _ _ _ q]; rfl))
   have HN8 := Lib.hid (rs_one HT.out.rs)
   go_upto_region 8 with fail
   refine Till.region (z := 3) (S := fun w' => Below wr.heap.size wr w') (by kernel_rfl) ((Below.refl _ _).drew) (fun hHeld => ?_)
   have HB8 := Lib.hid hHeld
   have HQ8 := Lib.hid (box_keep2 HQ.out hHeld)
   have HBt := Lib.hid (but_setRow HQ8.out #[r.n, r.l, r.c, r.d, r.a, r.f])
   refine Till.tz 0 (.pointer (some ⟨p, 0, none⟩)) rfl (fun w0 hS0 => ?_) ?_
   ·go_simp
   try simp only [u, lt, l0, ls]
   refine Till.tz 1 (.agg #[r.n, r.l, r.c, r.d, r.a, r.f]) rfl (fun w0 hS0 => ?_) ?_
   ·obtain ⟨c0, c1, c2, c3, c4, c5⟩ := HF8.out _ hS0; go_simp
   try simp only [u, lt, l0, ls]
   refine Till.tn 2 rfl fun K hK => ?_
   go_simp
   refine hK.out _ _ (fun _ => HB8.out) ?_
   clear hK K
   try simp only [u, lt, l0, ls]
   refine Till.tn 3 rfl fun K hK => ?_
   refine step_store_row rfl 36 (.tmp 3) (.tmp 36) rfl w.heap.size #[r.n, r.l, r.c, r.d, r.a, r.f] rfl rfl 36 nilsR HQ8.out sizeRef rfl HN8.out ?_
   refine hK.out _ _ (fun q => absurd rfl q) ?_
   clear hK K
   try simp only [u, lt, l0, ls]
   refine Till.done (by kernel_rfl) ?_
   go_wp2_with fail
   refine bodyPost_ret (v := .tuple #[.pointer (some ⟨p, 0, none⟩), .agg #[r.n, r.l, r.c, r.d, r.a, r.f]]) ?_ rfl ⟨p, r, L, rfl, ?_, hL⟩
   ·exact results_made rfl rfl (setRow_heap _ _ _ _ _ _ HQ8.out) rfl
   ·exact ⟨(HTK.out.fs.keep HB8.out).but HBt.out HQ8.out (Nat.le_refl _), HBt.out.rs HQ8.out (HTK.out.rs.keep HB8.out), HTK.out.rel⟩
end Go.Proofs.YtfhagjnlliafiaaGreatDoor.V
namespace Go.Proofs.YtfhagjnlliafiaaGreatDoor.I
open Go.Proofs.YtfhagjnlliafiaaGreatDoor.B
open Go.ChangeShapes Go.WideShapes Go.ChangeAt Go.RowKit Go.Deep
theorem cellsEn : Tryz.prog.cellsOf 46 = 2 := by kernel_rfl
theorem cellsHw : Tryz.prog.cellsOf 25 = 14 := by kernel_rfl
theorem cellsAsked : Tryz.prog.cellsOf 27 = 16 := by kernel_rfl
theorem cellsSlC : Tryz.prog.cellsOf 22 = 1 := by kernel_rfl
theorem cellsSlE : Tryz.prog.cellsOf 23 = 1 := by kernel_rfl
theorem cellsBool : Tryz.prog.cellsOf 4 = 1 := by kernel_rfl
theorem en_of_cells {H : Type} {enc : TypeId × Value → H} {W : World} {base : Nat} {sp : Nat → Bool} {held : Bool} {fuel : Nat} {cs : List Value} {y : DataW H × List MemPlace}
  (h : DataW.trod enc Tryz.prog W base sp held fuel 46 cs = some y) : ∃ e : En, cs = enC e ∧ e.1.size ≤ 9223372036854775807 := by
 obtain ⟨ys, n, _, _, hlen, hyl, hf⟩ := DataW.trod_struct Tryz.underlying46 h
 rw [cellsEn] at hlen
 have f0 := hf 0 _ rfl
 have f1 := hf 1 _ rfl
 clear hf
 match cs, hlen, ys, hyl with
 | [c0, c1], _, [y0, y1], _ =>
  simp [V.cellsStr, V.cellsInt] at f0 f1
  obtain ⟨s0, e0, _, g0⟩ := DataW.trod_string Tryz.underlying9 f0
  obtain ⟨n1, e1, _, _⟩ := DataW.trod_int Tryz.underlying3 f1
  simp at e0 e1
  exact ⟨⟨s0, n1⟩, by rw [e0, e1]; rfl, V.le_max_of g0⟩
theorem entries_of {H : Type} {enc : TypeId × Value → H} {W : World} {base : Nat} {sp : Nat → Bool} {held : Bool} {a : Option Addr} {len cap : Nat} {d : DataW H} {p : List MemPlace}
  (h : DataW.Trod enc Tryz.prog W base sp held 23 (.slice a len cap) d p) :
  ∃ es : List En, es.length = len ∧ EntL W a es ∧ (∀ e ∈ es, e.1.size ≤ 9223372036854775807) ∧ len ≤ 9223372036854775807 := by
 obtain ⟨fuel, hf⟩ := h
 rcases open_slice Tryz.underlying23 hf with ⟨hcs, _⟩ | ⟨x, l, c, m, n, D, Pl, hcs, _, hl, hm, hmm, _, hx⟩
 ·simp [Value.cells] at hcs
  obtain ⟨rfl, rfl, rfl⟩ := hcs
  exact ⟨[], rfl, .inl rfl, fun c hc => (by cases hc), by omega⟩
 ·simp [Value.cells] at hcs
  obtain ⟨rfl, rfl, rfl⟩ := hcs
  unfold maxLen at hm
  have hlm : len ≤ m := by rw [hmm]; split <;> omega
  rw [cellsEn] at hx
  have each : ∀ i, i < len → ∃ c : En, c.1.size ≤ 9223372036854775807 ∧ ∀ j v, (enC c)[j]? = some v → W.cell? (x.add (i * 2 + j)) = some v := by
   intro i hi
   obtain ⟨cs', hc, ht⟩ := hx i (by omega)
   obtain ⟨c, rfl, hw⟩ := en_of_cells ht
   refine ⟨c, hw, fun j v hj => ?_⟩
   obtain ⟨_, _, hat⟩ := World.cells?_some hc
   have hj8 : j < 2 := (List.getElem?_eq_some_iff.1 hj).1
   have := hat j hj8
   rw [Go.Deep.add_add] at this
   rw [this]
   exact hj
  classical
  by_cases h0 : len = 0
  ·exact ⟨[], h0.symm, .inl rfl, fun c hc => (by cases hc), by omega⟩
  ·have hin : Inhabited En := ⟨⟨ByteArray.empty, 0⟩⟩
   obtain ⟨f, hf⟩ := choose_lt each
   obtain ⟨b, off, spot⟩ := x
   have hspot : spot = none := by
    have := (hf 0 (by omega)).2 0 _ rfl
    simpa [Addr.add] using World.cell?_spot this
   subst hspot
   have hat : ∀ k, k < len → ∀ j v, (enC (f k))[j]? = some v → W.cell? ⟨b, off + k * 2 + j, none⟩ = some v := fun k hk j v hj => by
    have := (hf k hk).2 j v hj
    rw [add_plain] at this
    rw [Nat.add_assoc]
    exact this
   have hlt : b < W.heap.size := P.cell_lt (hat 0 (by omega) 0 _ rfl)
   refine ⟨(List.range len).map f, by simp, .inr ⟨b, off, rfl, hlt, fun k c hk => ?_⟩, fun c hc => ?_, by omega⟩
   ·rw [List.getElem?_map] at hk
    obtain ⟨k', hk', rfl⟩ := Option.map_eq_some_iff.1 hk
    have hkl : k < len := by have := (List.getElem?_eq_some_iff.1 hk').1; simpa using this
    rw [List.getElem?_range hkl] at hk'
    obtain rfl := Option.some.inj hk'
    exact fun j v hj => hat k hkl j v hj
   ·obtain ⟨k, hk, rfl⟩ := List.mem_map.1 hc
    exact (hf k (by simpa using hk)).1
def askedV (a : Option Addr) (n cap : Nat) (ea : Option Addr) (en ec : Nat) (h : Hw) : Value := .agg #[.slice a n cap, .slice ea en ec, .int .i64 h.form, .int .i64 h.most, .int .i64 h.order, .bool h.rev, .bool h.dirs, .int .i64 h.clock, .int .i64 h.quote, .bool h.mark, .bool h.inode, .bool h.blocks, .int .i64 h.style, .string h.own, .int .i64 h.now, .int .i64 h.offset]
theorem asked_of {H : Type} {enc : TypeId × Value → H} {W : World} {r : Reach} {b0 base : Nat} {sp : Nat → Bool} {held : Bool} {v : Value} {x : DataW H} {p : List MemPlace}
  (hv : Value.okWide Tryz.prog W r b0 27 v) (h : DataW.Trod enc Tryz.prog W base sp held 27 v x p) :
  ∃ (a : Option Addr) (cs : List V.Chg) (cap : Nat) (ea : Option Addr) (es : List En) (ec : Nat) (w : Hw), v = askedV a cs.length cap ea es.length ec w ∧ V.IsChgs W a cs ∧ EntL W ea es ∧ (∀ c ∈ cs, V.WideC c) ∧ cs.length ≤ 9223372036854775807 ∧ es.length ≤ 9223372036854775807 ∧ (∀ e ∈ es, e.1.size ≤ 9223372036854775807) ∧ w.own.size ≤ 9223372036854775807 ∧ I64 w.now ∧ I64 w.offset := by
 obtain ⟨cs, rfl, hsz⟩ := okWide_struct Tryz.underlying27 hv
 obtain ⟨fuel, h⟩ := h
 obtain ⟨ys, n, _, _, _, hyl, hf⟩ := DataW.trod_struct Tryz.underlying27 h
 rw [cellsAsked] at hsz
 have f0 := hf 0 _ rfl
 have f1 := hf 1 _ rfl
 have f2 := hf 2 _ rfl
 clear hf
 obtain ⟨l⟩ := cs
 match l, hsz, ys, hyl with
 | [c0, c1, c2, c3, c4, c5, c6, c7, c8, c9, c10, c11, c12, c13, c14, c15], _, [y0, y1, y2], _ =>
  simp [Value.cells, cellsSlC, cellsSlE, cellsHw] at f0 f1 f2
  obtain ⟨zs, m, _, _, _, hzl, hg⟩ := DataW.trod_struct Tryz.underlying25 f2
  have g0 := hg 0 _ rfl
  have g1 := hg 1 _ rfl
  have g2 := hg 2 _ rfl
  have g3 := hg 3 _ rfl
  have g4 := hg 4 _ rfl
  have g5 := hg 5 _ rfl
  have g6 := hg 6 _ rfl
  have g7 := hg 7 _ rfl
  have g8 := hg 8 _ rfl
  have g9 := hg 9 _ rfl
  have g10 := hg 10 _ rfl
  have g11 := hg 11 _ rfl
  have g12 := hg 12 _ rfl
  have g13 := hg 13 _ rfl
  clear hg
  match zs, hzl with
  | [z0, z1, z2, z3, z4, z5, z6, z7, z8, z9, z10, z11, z12, z13], _ =>
   simp [V.cellsInt, V.cellsI64, V.cellsStr, cellsBool] at g0 g1 g2 g3 g4 g5 g6 g7 g8 g9 g10 g11 g12 g13
   obtain ⟨n0, e0, _, _⟩ := DataW.trod_int Tryz.underlying3 g0
   obtain ⟨n1, e1, _, _⟩ := DataW.trod_int Tryz.underlying3 g1
   obtain ⟨n2, e2, _, _⟩ := DataW.trod_int Tryz.underlying3 g2
   obtain ⟨b3, e3, _⟩ := DataW.trod_bool Tryz.underlying4 g3
   obtain ⟨b4, e4, _⟩ := DataW.trod_bool Tryz.underlying4 g4
   obtain ⟨n5, e5, _, _⟩ := DataW.trod_int Tryz.underlying3 g5
   obtain ⟨n6, e6, _, _⟩ := DataW.trod_int Tryz.underlying3 g6
   obtain ⟨b7, e7, _⟩ := DataW.trod_bool Tryz.underlying4 g7
   obtain ⟨b8, e8, _⟩ := DataW.trod_bool Tryz.underlying4 g8
   obtain ⟨b9, e9, _⟩ := DataW.trod_bool Tryz.underlying4 g9
   obtain ⟨n10, e10, _, _⟩ := DataW.trod_int Tryz.underlying3 g10
   obtain ⟨s11, e11, _, k11⟩ := DataW.trod_string Tryz.underlying9 g11
   obtain ⟨n12, e12, _, k12⟩ := DataW.trod_int Tryz.underlying2 g12
   obtain ⟨n13, e13, _, k13⟩ := DataW.trod_int Tryz.underlying3 g13
   simp at e0 e1 e2 e3 e4 e5 e6 e7 e8 e9 e10 e11 e12 e13
   have hc0 : ∃ (a : Option Addr) (len cap : Nat), c0 = .slice a len cap := by
    rcases open_slice Tryz.underlying22 f0 with ⟨hcs, _⟩ | ⟨x, l, c, m, n, D, Pl, hcs, _⟩
    ·exact ⟨none, 0, 0, by simpa using hcs⟩
    ·exact ⟨some x, l, c, by simpa using hcs⟩
   have hc1 : ∃ (a : Option Addr) (len cap : Nat), c1 = .slice a len cap := by
    rcases open_slice Tryz.underlying23 f1 with ⟨hcs, _⟩ | ⟨x, l, c, m, n, D, Pl, hcs, _⟩
    ·exact ⟨none, 0, 0, by simpa using hcs⟩
    ·exact ⟨some x, l, c, by simpa using hcs⟩
   obtain ⟨a, len, cap, rfl⟩ := hc0
   obtain ⟨ea, elen, ec, rfl⟩ := hc1
   obtain ⟨cs, rfl, h1, h2, h3⟩ := V.changes_of ⟨_, f0⟩
   obtain ⟨es, rfl, k1, k2, k3⟩ := entries_of ⟨_, f1⟩
   exact ⟨a, cs, cap, ea, es, ec, ⟨n0, n1, n2, b3, b4, n5, n6, b7, b8, b9, n10, s11, n12, n13⟩, by rw [e0, e1, e2, e3, e4, e5, e6, e7, e8, e9, e10, e11, e12, e13]; rfl, h1, k1, h2, h3, k3, k2, V.le_max_of k11, bounds_i64 k12, bounds_i64 k13⟩
def FewRel (es : List En) (w1 : World) (v5 : Value) (wr : World) : Prop := ∃ k : Nat, k ≤ es.length ∧ k ≤ 40 ∧ v5 = .int .i64 (k : Int) ∧ wr = w1 ∧ Hid (∀ (j : Nat) (e : En), j < k → es[j]? = some e → e.1.size ≤ 60)
theorem askedFew_any (cs : List V.Chg) (a : Option Addr) (cap : Nat) (es : List En) (ea : Option Addr) (ec : Nat) (h : Hw) (n : Int) (w : World) (H : V.IsChgs w a cs) (E : EntL w ea es) (hl : cs.length ≤ 9223372036854775807) (hz : ∀ c ∈ cs, c.name.size ≤ 9223372036854775807 ∧ c.text.size ≤ 9223372036854775807) (hel : es.length ≤ 9223372036854775807) (hez : ∀ e ∈ es, e.1.size ≤ 9223372036854775807) (ho : h.own.size ≤ 9223372036854775807) :
  Calls Tryz.prog 6 #[askedV a cs.length cap ea es.length ec h, .int .i64 n] w fun e w' => ∃ b : Bool, e = .returned (.bool b) ∧ (b = true → (V.FewL cs ∧ (cs.length : Int) ≤ n) ∧ es.length ≤ 12 ∧ (∀ e ∈ es, e.1.size ≤ 60) ∧ h.own.size ≤ 30) ∧ Below w.heap.size w w' := by
 have HF := Lib.hid (fun X (hb : Below w.heap.size w X) => V.few_any cs a cap n X (H.keep hb) hl hz)
 have HE := Lib.hid (fun X (hb : Below w.heap.size w X) => E.keep hb)
 have HZ := Lib.hid hez
 clear H E hz hez hl
 unfold askedV
 go_enter Tryz.func6, Tryz.ntmps6
 go_upto_region 1 with fail
 obtain ⟨B0, hB0⟩ : ∃ B0, w.heap.size = B0 := ⟨_, rfl⟩
 obtain ⟨w1, hw1⟩ : ∃ w1, w.alloc (.cells #[.slice a cs.length cap, .slice ea es.length ec, .int .i64 h.form, .int .i64 h.most, .int .i64 h.order, .bool h.rev, .bool h.dirs, .int .i64 h.clock, .int .i64 h.quote, .bool h.mark, .bool h.inode, .bool h.blocks, .int .i64 h.style, .string h.own, .int .i64 h.now, .int .i64 h.offset] 27) = w1 := ⟨_, rfl⟩
 have HB1 := Lib.hid (show Below w.heap.size w w1 from by rw [← hw1]; exact (Below.refl _ _).alloc (Nat.le_refl _) _)
 have hX1 : w1.heap[B0]? = some (.cells #[.slice a cs.length cap, .slice ea es.length ec, .int .i64 h.form, .int .i64 h.most, .int .i64 h.order, .bool h.rev, .bool h.dirs, .int .i64 h.clock, .int .i64 h.quote, .bool h.mark, .bool h.inode, .bool h.blocks, .int .i64 h.style, .string h.own, .int .i64 h.now, .int .i64 h.offset] 27) := by rw [← hw1, ← hB0]; exact heap_alloc_new _ _
 rw [hw1, hB0]
 clear hw1 hB0
 have q0 : w1.cell? ⟨B0, 0, none⟩ = some (.slice a cs.length cap) := by rw [cell_of_row _ _ _ _ _ _ hX1]; rfl
 have q1 : w1.cell? ⟨B0, 1, none⟩ = some (.slice ea es.length ec) := by rw [cell_of_row _ _ _ _ _ _ hX1]; rfl
 have q13 : w1.cell? ⟨B0, 13, none⟩ = some (.string h.own) := by rw [cell_of_row _ _ _ _ _ _ hX1]; rfl
 clear hX1
 go_wp2_with fail
 go_loopw [5] (FewRel es w1) (fun v _ => es.length - (intOf v).toNat)
 case atStart => exact ⟨0, Nat.zero_le _, by omega, rfl, rfl, Lib.hid (fun j c hj => by omega)⟩
 case round =>
  obtain ⟨k, hk, hk4, rfl, rfl, hno⟩ := hrel
  by_cases hlt : k < es.length
  ·have d1 : decide ((k : Int) < (es.length : Int)) = true := decide_eq_true (by omega)
   by_cases h4 : k < 40
   ·have d2 : decide ((k : Int) < 40) = true := decide_eq_true (by omega)
    obtain ⟨en, hen⟩ : ∃ en, es[k]? = some en := ⟨_, List.getElem?_eq_getElem hlt⟩
    obtain ⟨g, o, rfl, _, hr⟩ := (HE.out _ HB1.out).at_ hen
    have n3 : wr.cell? ⟨g, o + k * 2, none⟩ = some (.string en.1) := hr 0 _ rfl
    have HCc := Lib.hid hen
    have z1 := HZ.out en (List.mem_of_getElem? hen)
    clear hr hen
    by_cases hn : 60 < en.1.size
    ·have e1 : decide ((60 : Int) < (en.1.size : Int)) = true := decide_eq_true (by omega)
     go_wp2_with fail
     go_ret
     exact ⟨false, rfl, fun e => (by cases e), HB1.out⟩
    ·have e1 : decide ((60 : Int) < (en.1.size : Int)) = false := decide_eq_false (by omega)
     have HN := Lib.hid (show ∀ (j : Nat) (c : En), j < k + 1 → es[j]? = some c → c.1.size ≤ 60 from fun j c' hj hj' => by
      rcases Nat.lt_or_ge j k with q | q
      ·exact hno.out j c' q hj'
      ·obtain rfl : j = k := by omega
       rw [HCc.out] at hj'
       obtain rfl := Option.some.inj hj'
       omega)
     go_wp2_with fail
     go_roundw
     case rel => exact ⟨k + 1, by omega, by omega, by simp, rfl, Lib.hid HN.out⟩
     case measure => simp [intOf]; omega
   ·have d2 : decide ((k : Int) < 40) = false := decide_eq_false (by omega)
    have d3 : decide ((es.length : Int) ≤ 12) = false := decide_eq_false (by omega)
    clear q13
    go_wp2_with fail
    refine (HF.out _ HB1.out).mono ?_
    rintro e w3 ⟨b, rfl, hb, rfl⟩
    clear hb
    cases b with
    | false =>
     go_wp2_with fail
     go_ret
     exact ⟨false, rfl, fun e => (by cases e), HB1.out⟩
    | true =>
     go_wp2_with fail
     go_ret
     exact ⟨false, rfl, fun e => (by cases e), HB1.out⟩
  ·have d1 : decide ((k : Int) < (es.length : Int)) = false := decide_eq_false (by omega)
   obtain rfl : k = es.length := by omega
   have HN := Lib.hid (show ∀ e ∈ es, e.1.size ≤ 60 from fun e he => by
    obtain ⟨j, hj, e2⟩ := List.getElem_of_mem he
    exact hno.out j e hj (by rw [← e2]; exact List.getElem?_eq_getElem hj))
   go_wp2_with fail
   refine (HF.out _ HB1.out).mono ?_
   rintro e w3 ⟨b, rfl, hb, rfl⟩
   have HBb := Lib.hid hb
   clear hb
   cases b with
   | false =>
    go_wp2_with fail
    go_ret
    exact ⟨false, rfl, fun e => (by cases e), HB1.out⟩
   | true =>
    by_cases h12 : es.length ≤ 12
    ·have d3 : decide ((es.length : Int) ≤ 12) = true := decide_eq_true (by omega)
     by_cases h30 : h.own.size ≤ 30
     ·have d4 : decide ((h.own.size : Int) ≤ 30) = true := decide_eq_true (by omega)
      go_wp2_with fail
      go_ret
      exact ⟨true, rfl, fun _ => ⟨(by first | exact HBb.out.1 rfl | exact HBb.out.1 trivial), h12, HN.out, h30⟩, HB1.out⟩
     ·have d4 : decide ((h.own.size : Int) ≤ 30) = false := decide_eq_false (by omega)
      go_wp2_with fail
      go_ret
      exact ⟨false, rfl, fun e => (by cases e), HB1.out⟩
    ·have d3 : decide ((es.length : Int) ≤ 12) = false := decide_eq_false (by omega)
     go_wp2_with fail
     go_ret
     exact ⟨false, rfl, fun e => (by cases e), HB1.out⟩
end Go.Proofs.YtfhagjnlliafiaaGreatDoor.I
namespace Go.Proofs.YtfhagjnlliafiaaGreatDoor.I
open Go.Proofs.YtfhagjnlliafiaaGreatDoor.B
open Go.RowKit
theorem rowW_8 (f : Nat → Int) (r : Nat → ByteArray) : ∀ c, c ≤ 9 → rowW f r c 8 = f 8
 | 0, _ => rfl
 | c + 1, h => by
  rw [rowW_succ]
  have ih := rowW_8 f r c (by omega)
  unfold colW
  split
  ·rename_i q
   have hc : c ≠ 8 := by rintro rfl; cases q
   unfold updW
   rw [if_neg (Ne.symm hc), ih]
  ·exact ih
theorem wideL_8 (R : List (Nat → ByteArray)) : wideL R 8 = 0 := by
 have key : ∀ (R : List (Nat → ByteArray)) (f : Nat → Int), R.foldl (fun f r => rowW f r 9) f 8 = f 8 := fun R => by
  induction R with
  | nil => exact fun f => rfl
  | cons r t ih => exact fun f => by rw [List.foldl_cons, ih, rowW_8 f r 9 (Nat.le_refl _)]
 exact key R fun _ => 0
theorem pad_zero (t : ByteArray) : padI t 0 = t := by
 unfold padI
 have h0 : N.lackN (wdI t) 0 = 0 := by
  have := N.clamp_bd (wdI t)
  unfold N.lackN
  have e : N.clampZ 0 = 0 := by unfold N.clampZ; omega
  rw [e]
  omega
 rw [h0]
 show (⟨#[]⟩ : ByteArray) ++ t = t
 exact ByteArray.empty_append
def bareH (h : Hw) : Prop := h.form ≠ 4 ∧ h.inode = false ∧ h.blocks = false
theorem bare_cols {h : Hw} (hb : bareH h) (f : Nat → Int) (r : Nat → ByteArray) : colsI h f r 9 = [padI (r 8) (f 8)] := by
 obtain ⟨h1, h2, h3⟩ := hb
 have a0 : asksB h 0 = false := h2
 have a1 : asksB h 1 = false := h3
 have af : decide (h.form = 4) = false := decide_eq_false h1
 have a2 : asksB h 2 = false := af
 have a3 : asksB h 3 = false := af
 have a4 : asksB h 4 = false := af
 have a5 : asksB h 5 = false := af
 have a6 : asksB h 6 = false := af
 have a7 : asksB h 7 = false := af
 have a8 : asksB h 8 = true := rfl
 have e0 : colsI h f r 0 = [] := rfl
 rw [colsI_succ, if_pos a8, colsI_succ, a7, colsI_succ, a6, colsI_succ, a5, colsI_succ, a4, colsI_succ, a3, colsI_succ, a2, colsI_succ, a1, colsI_succ, a0, e0]
 rfl
theorem bare_line {h : Hw} (hb : bareH h) (R : List (Nat → ByteArray)) (r : Nat → ByteArray) : lineI h (wideL R) r = r 8 := by
 unfold lineI joinI
 rw [bare_cols hb, wideL_8, pad_zero, List.map_cons, List.map_nil, Lib.join_one]
theorem bare_all (M : List V.Nd) {h : Hw} (qf : ByteArray → ByteArray) (hb : bareH h) (T : List En) : allI M h qf T = T.map fun e => nameI M h qf e.1 (V.overI M e.2) (V.nvAt M (V.overI M e.2)) := by
 unfold allI linesI
 rw [List.map_map]
 congr 1
 funext e
 exact bare_line hb _ _
theorem quote0_any (s : ByteArray) (w : World) : Calls Tryz.prog 113 #[.int .i64 0, .string s] w fun e w' => e = .returned (.string s) ∧ Below w.heap.size w w' := by
 go_enter Tryz.func113, Tryz.ntmps113
 go_wp2_with fail
 go_ret
 exact ⟨rfl, Below.refl _ _⟩
theorem quote_zero {h : Hw} (hq : h.quote = 0) (w : World) : QI h id w := ⟨fun s X _ _ => by rw [hq]; exact quote0_any s X, fun s _ => by show s.size ≤ _; omega⟩
def awakeH : Hw := ⟨0, 0, 0, false, false, 0, 0, true, false, false, 0, ⟨#[]⟩, 0, 0⟩
def rEn : En := (⟨#[114]⟩, 0)
theorem goodI_new : GoodI V.newM := goodI_run [] (by simp) (fun k c hk hc => by simp at hc) (fun c hc => by cases hc)
theorem nums_new : ∀ i, OkR (V.nvAt V.newM i) := nums_run [] (by simp) goodI_new (fun c hc => by cases hc)
theorem new_there : thereL V.newM [rEn] = [rEn] := by decide +kernel
theorem new_kind : (V.nvAt V.newM (V.overI V.newM 0)).kind = 2 := by decide +kernel
theorem awake_out {out : List En} (h : SortedI V.newM awakeH.order awakeH.rev awakeH.dirs awakeH.clock [rEn] out) : out = [rEn] := by
 have hl := h.len
 rw [new_there] at hl
 match out, hl with
 | [e], _ =>
  have := (h.mem e List.mem_cons_self).1
  rw [List.mem_singleton.1 this]
theorem awake_all : allI V.newM awakeH id [rEn] = [⟨#[114, 47]⟩] := by
 rw [bare_all V.newM id ⟨by decide, rfl, rfl⟩]
 show [nameI V.newM awakeH id (⟨#[114]⟩ : ByteArray) (V.overI V.newM 0) (V.nvAt V.newM (V.overI V.newM 0))] = _
 unfold nameI
 rw [if_neg (fun q => absurd q.1 (by decide))]
 unfold mkI
 rw [if_pos (show awakeH.mark = true from rfl)]
 unfold P.markL
 rw [if_pos new_kind]
 rfl
theorem awoken_any (w : World) (ht : ATab w) :
  Calls Tryz.prog 5 #[] w fun e w' => e = .returned (.bool true) ∧ Below w.heap.size w w' := by
 have HT := Lib.hid ht
 clear ht
 go_enter Tryz.func5, Tryz.ntmps5
 go_wp2_with fail
 refine (V.new_any w).mono ?_
 rintro e w2 ⟨p, rfl, H2⟩
 have HH := Lib.hid H2
 clear H2
 have HA := Lib.hid (show Below w2.heap.size w2 (w2.alloc (.cells #[.string ⟨#[114]⟩, .int .i64 0] 46)) from (Below.refl _ _).alloc (Nat.le_refl _) _)
 have HE := Lib.hid (show EntL (w2.alloc (.cells #[.string ⟨#[114]⟩, .int .i64 0] 46)) (some ⟨w2.heap.size, 0, none⟩) [rEn] from .inr ⟨w2.heap.size, 0, rfl, by simp, fun i x hx => by
  have hi : i = 0 := by have := (List.getElem?_eq_some_iff.1 hx).1; simp at this; omega
  subst hi
  obtain rfl := Option.some.inj hx
  have := range_of (heap_alloc_new w2 (.cells #[.string ⟨#[114]⟩, .int .i64 0] 46))
  exact this⟩)
 have HRw := Lib.hid (rows_any awakeH id [rEn] (some ⟨w2.heap.size, 0, none⟩) 1 w _ (HH.out.keep HA.out) goodI_new ((HT.out.i.keep HH.out.below).keep HA.out) (quote_zero rfl _) ((HT.out.w.keep HH.out.below).keep HA.out) HE.out (by simp) (fun e he => by rw [List.mem_singleton.1 he]; show 1 ≤ 60000; omega) nums_new ⟨Nat.zero_le _, ⟨by decide, by decide⟩, ⟨by decide, by decide⟩⟩ ⟨by decide, by decide, by decide⟩)
 unfold hwV awakeH at HRw
 dsimp only at HRw
 go_wp2_with fail
 refine HRw.out.mono ?_
 rintro e w3 ⟨v, out, rfl, hso, ho, hb⟩
 obtain rfl := awake_out hso
 have ho' : w3.ownsRow (w2.alloc (.cells #[.string ⟨#[114]⟩, .int .i64 0] 46)).heap.size 9 1 v 1 (strs [⟨#[114, 47]⟩]) := by rw [← awake_all]; exact ho
 obtain ⟨g, c, rfl, _, _⟩ := owns_some ho' (by omega)
 have q0 : w3.cell? ⟨g, 0, none⟩ = some (.string ⟨#[114, 47]⟩) := owns_cell ho' rfl
 have HB := Lib.hid (HH.out.below.trans ((HA.out.trans (hb.mono HA.out.size)).mono HH.out.below.size))
 clear ho ho' hso hb HE HA HRw
 go_wp2_with fail
 go_ret
 exact ⟨rfl, HB.out⟩
end Go.Proofs.YtfhagjnlliafiaaGreatDoor.I
