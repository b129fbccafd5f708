/-
  What usage.Sum returns: the lines, and the whole of what the walks of the starts visit first, in units. Conditions: what few changes make; at most 40 starts, of names of at most 300 bytes.
  That the law UsageWhole returns true. Conditions: the table of classes lies as its text lays it; what came in lies in memory.
-/
import Derived.Test.YtpikndeefiediaaGreatDoorKUKeysM
import Derived.Test.YtpikndeefiediaaGreatDoorKUBegin
set_option linter.unusedVariables false
set_option linter.unusedSimpArgs false
namespace Go.Proofs.YtpikndeefiediaaGreatDoor.U
open Go.Proofs.YtpikndeefiediaaGreatDoor.B
open Go.RowKit Go.Maps

theorem sizeH : (Tryz.prog.info? 55).map (·.size) = some 4 := by kernel_rfl
/-- A start, cell by cell. -/
def stC (s : Int × ByteArray) : List Value := [.int .i64 s.1, .string s.2]
theorem stC_len (s : Int × ByteArray) : (stC s).length = 2 := rfl
/-- All nodes that the walks of some starts visit first. -/
def allIds (M : List V.Nd) (u g : Int) : List (Int × ByteArray) → List Int
  | [] => []
  | s :: r => startIds M u g s.1 ++ allIds M u g r
theorem allIds_snoc (M : List V.Nd) (u g : Int) (x : Int × ByteArray) : ∀ l, allIds M u g (l ++ [x]) = allIds M u g l ++ startIds M u g x.1
  | [] => by show startIds M u g x.1 ++ [] = [] ++ startIds M u g x.1; rw [List.append_nil, List.nil_append]
  | y :: r => by rw [List.cons_append, allIds, allIds, allIds_snoc M u g x r, List.append_assoc]
/-- What Sum returns. -/
def SumR (M : List V.Nd) (u g : Int) (H : How) (L : List (Int × ByteArray)) (W0 : World) (e : Ending) (w' : World) : Prop :=
  ∃ lv, e = .returned (.tuple #[lv, .int .i64 (unitsZ (cntZ H.each (blkI M) (allIds M u g L)) H.unit)]) ∧ Below W0.heap.size W0 w'
/-- Ahead of the walk of start i. -/
def OutRel (W0 : World) (cb mb p : Nat) (M : List V.Nd) (u g : Int) (H : How) (L : List (Int × ByteArray)) (w2 : World) (v : Value) (wr : World) : Prop :=
  ∃ (i ln : Nat) (lv : Value), i ≤ L.length ∧ v = .int .i64 (i : Int) ∧ Hid (Cnt W0 cb mb p H (keysM M (allIds M u g (L.take i))) (cntZ H.each (blkI M) (allIds M u g (L.take i))) ln lv wr ∧ ln ≤ i * 240602 ∧ (allIds M u g (L.take i)).length ≤ i * 120301 ∧ (∀ x ∈ allIds M u g (L.take i), Val M x) ∧ Kt w2 wr)
/-- Ahead of visit j. -/
def InRel (W0 : World) (cb mb p : Nat) (M : List V.Nd) (H : How) (ids : List Int) (A : List G.Vis) (l0 : Nat) (w5 : World) (v : Value) (wr : World) : Prop :=
  ∃ (j ln : Nat) (lv : Value), j ≤ A.length ∧ v = .int .i64 (j : Int) ∧ Hid (Cnt W0 cb mb p H (keysM M (ids ++ idsV (A.take j))) (cntZ H.each (blkI M) (ids ++ idsV (A.take j))) ln lv wr ∧ ln ≤ l0 + 2 * j ∧ (∀ x ∈ ids ++ idsV (A.take j), Val M x) ∧ Kt w5 wr)
theorem idsV_len (l : List G.Vis) : (idsV l).length ≤ l.length := by
  unfold idsV
  rw [List.length_map]
  exact List.length_filter_le _ _
theorem idsV_app (a b : List G.Vis) : idsV (a ++ b) = idsV a ++ idsV b := by
  unfold idsV
  rw [List.filter_append, List.map_append]
theorem same_sym {P : Program} {f : FuncId} {args : Array Value} {w : World} {v : Value} (h : Calls P f args w fun e w' => e = .returned v ∧ w = w') : Calls P f args w fun e w' => e = .returned v ∧ w' = w := h.mono fun e w' q => ⟨q.1, q.2.symm⟩
theorem sizeS : (Tryz.prog.info? 52).map (·.size) = some 2 := by kernel_rfl
theorem sizeCr : (Tryz.prog.info? 50).map (·.size) = some 2 := by kernel_rfl

section
variable {v0 W0 : World} {M : List V.Nd} {p : Nat}
set_option maxRecDepth 100000 in
set_option maxHeartbeats 8000000 in
theorem sum_any (u g : Int) (a : Option Addr) (cap : Nat) (L : List (Int × ByteArray)) (H : How) (hf : V.Has v0 p M W0) (ht : P.Tab W0) (hG : G.Good M) (hD : V.DevInv M) (hB : BlkM M)
    (hL : RowL 2 stC W0 a L) (hl : L.length ≤ 40) (hn : ∀ s ∈ L, s.2.size ≤ 300) (h5 : -9223372036854775808 ≤ H.unit ∧ H.unit ≤ 9223372036854775807) :
    Calls Tryz.prog 10 #[.pointer (some ⟨p, 0, none⟩), P.credV u g, .slice a L.length cap, howV H] W0 (SumR M u g H L W0) := by
  have hmm := @run_makeMap Tryz.prog
  unfold P.credV howV
  go_enter Tryz.func10, Tryz.ntmps10
  go_upto_region 1 with fail
  have HB1 := Lib.hid (((Below.refl W0.heap.size W0).alloc (Nat.le_refl _) (.cells #[.int .i64 u, .int .i64 g] 50)).alloc (by simp) (.cells #[.bool H.all, .int .i64 H.most, .bool H.each, .int .i64 H.unit] 55))
  have HWho := Lib.hid (show ((W0.alloc (.cells #[.int .i64 u, .int .i64 g] 50)).alloc (.cells #[.bool H.all, .int .i64 H.most, .bool H.each, .int .i64 H.unit] 55)).heap[W0.heap.size]? = some (.cells #[.int .i64 u, .int .i64 g] 50 (0, 0)) from (heap_alloc_old _ _ (by simp)).trans (heap_alloc_new _ _))
  have HHow := Lib.hid (show ((W0.alloc (.cells #[.int .i64 u, .int .i64 g] 50)).alloc (.cells #[.bool H.all, .int .i64 H.most, .bool H.each, .int .i64 H.unit] 55)).heap[W0.heap.size + 1]? = some (.cells #[.bool H.all, .int .i64 H.most, .bool H.each, .int .i64 H.unit] 55 (0, 0)) from by
    have e : (W0.alloc (.cells #[.int .i64 u, .int .i64 g] 50)).heap.size = W0.heap.size + 1 := by simp
    rw [← e]
    exact heap_alloc_new _ _)
  generalize (W0.alloc (.cells #[.int .i64 u, .int .i64 g] 50)).alloc (.cells #[.bool H.all, .int .i64 H.most, .bool H.each, .int .i64 H.unit] 55) = w1 at HB1 HWho HHow ⊢
  obtain ⟨B5, hB5⟩ : ∃ B5, W0.heap.size = B5 := ⟨_, rfl⟩
  obtain ⟨B7, hB7⟩ : ∃ B7, B5 + 1 = B7 := ⟨_, rfl⟩
  rw [hB5] at HWho HHow ⊢
  rw [hB7] at HHow ⊢
  go_upto_region 2 with (first
    | (refine wpList_load_mid rfl 55 (.tmp 7) rfl B7 0 rfl [.bool H.all, .int .i64 H.most, .bool H.each, .int .i64 H.unit] _ (row_range HHow.out) Tryz.underlying55 rfl sizeH ?_)
    | (refine wpList_store_row rfl 78 (.tmp 10) (.tmp 18) rfl (w1.heap.size + 1) (cs0 Tryz.zeroCells78 p w1.heap.size H) rfl rfl 78 Tryz.zeroCells78 (begin_at _ _ _) (by rw [cs0_size]; exact sizeC) (by rw [cs0_size]; exact zS) (cs0_one _ _ _) ?_; rw [begin_row]))
  have HC2 := Lib.hid (cnt0 W0 w1 p H HB1.out)
  have HB2 := Lib.hid (show Below w1.heap.size w1 ((w1.alloc (.map #[] 0)).alloc (.cells (cs0 Tryz.zeroCells78 p w1.heap.size H) 78)) from ((Below.refl _ _).alloc (Nat.le_refl _) _).alloc (by simp) _)
  rw [begin_size] at HC2
  generalize (w1.alloc (.map #[] 0)).alloc (.cells (cs0 Tryz.zeroCells78 p w1.heap.size H) 78) = w2 at HC2 HB2 ⊢
  have HWho2 := Lib.hid ((HB2.out.block _ (heap_lt HWho.out)).trans HWho.out)
  obtain ⟨mb, hmb⟩ : ∃ mb, w1.heap.size = mb := ⟨_, rfl⟩
  obtain ⟨cb, hcb⟩ : ∃ cb, mb + 1 = cb := ⟨_, rfl⟩
  rw [hmb] at HC2 ⊢
  rw [hcb] at HC2 ⊢
  clear hmb hcb hB5 hB7 HWho HHow HB2 HB1 hmm
  have HHas := Lib.hid hf
  have HTb := Lib.hid ht
  have HGd := Lib.hid hG
  have HDv := Lib.hid hD
  have HBk := Lib.hid hB
  have HSt := Lib.hid hL
  have HNm := Lib.hid hn
  clear hf ht hG hD hB hL hn
  have HNd := Lib.hid (show ∀ (i : Int) (W : World), Below W0.heap.size W0 W → Calls Tryz.prog 7 #[.pointer (some ⟨p, 0, none⟩), .int .i64 i] W fun e w' => e = .returned (.tuple #[P.nodeV (V.nvAt M i), .int .i64 (V.nodeEr M i)]) ∧ Below W.heap.size W w' from fun i W hb => by
    rw [← V.nodeV_nv]
    exact V.has_nodeI i (HHas.out.keep hb) HGd.out.pos)
  have HBd := Lib.hid (bds_at HDv.out HBk.out (by have := HGd.out.few; omega))
  go_wp2_with fail
  go_loopw [21] (OutRel W0 cb mb p M u g H L w2) (fun v _ => L.length - (intOf v).toNat)
  case atStart => exact ⟨0, 0, _, Nat.zero_le _, rfl, Lib.hid ⟨HC2.out, Nat.le_refl _, Nat.le_refl _, fun x hx => (by cases hx), Kt.refl _⟩⟩
  case round =>
    obtain ⟨i, ln, lv, hi, rfl, HR⟩ := hrel
    have HW5 := Lib.hid (HR.out.2.2.2.2.2 _ _ _ _ HWho2.out (by decide) (by decide))
    by_cases hlt : i < L.length
    · obtain ⟨s, hs⟩ : ∃ s, L[i]? = some s := ⟨_, List.getElem?_eq_getElem hlt⟩
      obtain ⟨ga, o, rfl, hga, hrg⟩ := (HSt.out.keep HR.out.1.low).at_ hs
      have HRg := Lib.hid (show wr.rangeAt ga (o + i * 2) [.int .i64 s.1, .string s.2] from hrg)
      have HSn := Lib.hid (HNm.out s (List.mem_of_getElem? hs))
      have HSs := Lib.hid hs
      clear hs hrg hga
      go_upto_region 5 with (refine wpList_load_mid rfl 52 (.tmp 23) rfl ga (o + i * 2) rfl [.int .i64 s.1, .string s.2] _ HRg.out Tryz.underlying52 rfl sizeS ?_)
      have HB3 := Lib.hid (show Below wr.heap.size wr (wr.alloc (.cells #[.int .i64 s.1, .string s.2] 52)) from (Below.refl _ _).alloc (Nat.le_refl _) _)
      have HX3 := Lib.hid (heap_alloc_new wr (.cells #[.int .i64 s.1, .string s.2] 52))
      generalize wr.alloc (.cells #[.int .i64 s.1, .string s.2] 52) = w3 at HB3 HX3 ⊢
      obtain ⟨B12, hB12⟩ : ∃ B12, wr.heap.size = B12 := ⟨_, rfl⟩
      rw [hB12] at HX3 ⊢
      have HW53 := Lib.hid ((HB3.out.block _ (heap_lt HW5.out)).trans HW5.out)
      have HI3 := Lib.hid (HR.out.1.keep HB3.out)
      have HK3 := Lib.hid (HR.out.2.2.2.2.trans (Kt.of_below HB3.out))
      have HLn := Lib.hid HR.out.2.1
      have HLi := Lib.hid HR.out.2.2.1
      have HVl := Lib.hid HR.out.2.2.2.1
      have s0 : w3.cell? ⟨B12, 0, none⟩ = some (.int .i64 s.1) := by rw [cell_of_row _ _ _ _ _ _ HX3.out]; rfl
      have s1 : w3.cell? ⟨B12, 1, none⟩ = some (.string s.2) := by rw [cell_of_row _ _ _ _ _ _ HX3.out]; rfl
      have HWk := Lib.hid (G.walkM_any u g true (HHas.out.keep HI3.out.low) (HTb.out.keep HI3.out.low) HGd.out (-1) s.1 s.2 HSn.out)
      unfold P.credV at HWk
      have HNx := Lib.hid (show allIds M u g (L.take (i + 1)) = allIds M u g (L.take i) ++ startIds M u g s.1 from by rw [List.take_add_one, HSs.out]; exact allIds_snoc M u g s (L.take i))
      have HAid := Lib.hid (show idsV (G.walkL (G.treeM M u g true) (V.nodeEr M) (-1) s.1 s.2) = startIds M u g s.1 from walkL_ids M u g s.1 s.2)
      have HAln := Lib.hid (walkL_len HGd.out u g s.1 s.2)
      have HAok := Lib.hid (fun x hx => walkL_ok HGd.out (u := u) (g := g) (i := s.1) (s := s.2) (x := x) hx)
      clear hB12 HB3 HX3 HR HW5 HRg
      go_wp2_with (refine wpList_load_mid rfl 50 (.tmp 5) rfl B5 0 rfl [.int .i64 u, .int .i64 g] _ (row_range HW53.out) Tryz.underlying50 rfl sizeCr ?_)
      refine HWk.out.mono ?_
      rintro e w5 ⟨vv, rfl, how, hb5⟩
      clear HWk s0 s1
      have HOw := Lib.hid how
      have HI5 := Lib.hid (HI3.out.keep hb5)
      have HK5 := Lib.hid (HK3.out.trans (Kt.of_below hb5))
      have HW55 := Lib.hid ((hb5.block _ (heap_lt HW53.out)).trans HW53.out)
      clear how hb5 HI3 HK3 HW53
      generalize G.walkL (G.treeM M u g true) (V.nodeEr M) (-1) s.1 s.2 = A at HOw HAid HAln HAok
      generalize allIds M u g (L.take i) = ids at HI5 HLi HVl HNx
      obtain ⟨av, cv, hvv⟩ := owns_form HOw.out
      subst hvv
      go_wp2_with fail
      go_loopw [33] (InRel W0 cb mb p M H ids A ln w5) (fun v _ => A.length - (intOf v).toNat)
      case atStart => exact ⟨0, ln, _, Nat.zero_le _, rfl, Lib.hid ⟨by rw [List.take_zero]; show Cnt W0 cb mb p H (keysM M (ids ++ [])) (cntZ H.each (blkI M) (ids ++ [])) ln _ w5; rw [List.append_nil]; exact HI5.out, Nat.le_refl _, fun x hx => HVl.out x (by rw [List.take_zero] at hx; simpa [idsV] using hx), Kt.refl _⟩⟩
      case round =>
        obtain ⟨j, ln', lv', hj, rfl, HR⟩ := hrel
        by_cases hlt2 : j < A.length
        · obtain ⟨x, hx⟩ : ∃ x, A[j]? = some x := ⟨_, List.getElem?_eq_getElem hlt2⟩
          obtain ⟨gv, cv', hvv, _, _⟩ := owns_some HOw.out (by omega)
          simp only [Value.slice.injEq] at hvv
          obtain ⟨rfl, _, rfl⟩ := hvv
          have HOk := Lib.hid (HAok.out x (List.mem_of_getElem? hx))
          have HXx := Lib.hid hx
          have HRow := Lib.hid (show wr.rangeAt gv (j * 7) [.int .i64 x.id, .int .i64 x.depth, .string x.name, .string x.base, .bool x.last, .bool x.over, .int .i64 x.err] from fun n v hv => by
            have hn7 : n < 7 := (List.getElem?_eq_some_iff.1 hv).1
            exact owns_cell (HR.out.2.2.2.owns HOw.out (by decide) (by decide)) ((G.rowsC_get G.visC_len _ _ n _ hx hn7).trans hv))
          obtain ⟨d, hd⟩ : ∃ d : Nat, x.depth = (d : Int) := ⟨x.depth.toNat, by have := HOk.out.deep; omega⟩
          have hd1 : d < 101 := by have := HOk.out.deep; omega
          have HBx := Lib.hid (HBd.out x.id)
          have HKl := Lib.hid (show (keysM M (ids ++ idsV (A.take j))).length ≤ 10000000 from by
            have h1 := HLi.out
            have h2 := idsV_len (A.take j)
            rw [List.length_take] at h2
            have h3 := HAln.out
            unfold keysM
            rw [List.length_map, List.length_append]
            omega)
          have HLl := Lib.hid (show ln' ≤ 10000000 from by
            have h1 := HR.out.2.1
            have h2 := HLn.out
            have h3 := HAln.out
            omega)
          have HB7 := Lib.hid (show Below wr.heap.size wr (wr.alloc (.cells #[.int .i64 x.id, .int .i64 x.depth, .string x.name, .string x.base, .bool x.last, .bool x.over, .int .i64 x.err] 82)) from (Below.refl _ _).alloc (Nat.le_refl _) _)
          have HX7 := Lib.hid (heap_alloc_new wr (.cells #[.int .i64 x.id, .int .i64 x.depth, .string x.name, .string x.base, .bool x.last, .bool x.over, .int .i64 x.err] 82))
          have HTk := Lib.hid (take_any x d (V.nvAt M x.id) (V.nodeEr M x.id) (HR.out.1.keep HB7.out) hd1 hd HKl.out HLl.out (by have h1 := HOk.out.name; have h2 := HSn.out; omega) HBx.out.dev HBx.out.ino HBx.out.blk (cnt_bd _ _ _) h5 (fun W hb => HNd.out x.id W hb))
          clear hx hd
          unfold G.visV at HTk
          go_upto_region 8 with (refine wpList_load_mid rfl 82 (.tmp 35) rfl gv (j * 7) rfl [.int .i64 x.id, .int .i64 x.depth, .string x.name, .string x.base, .bool x.last, .bool x.over, .int .i64 x.err] _ HRow.out Tryz.underlying82 rfl sizeV ?_)
          generalize wr.alloc (.cells #[.int .i64 x.id, .int .i64 x.depth, .string x.name, .string x.base, .bool x.last, .bool x.over, .int .i64 x.err] 82) = w7 at HB7 HX7 HTk ⊢
          go_wp2_with (refine wpList_load_mid rfl 82 (.tmp 14) rfl wr.heap.size 0 rfl [.int .i64 x.id, .int .i64 x.depth, .string x.name, .string x.base, .bool x.last, .bool x.over, .int .i64 x.err] _ (row_range HX7.out) Tryz.underlying82 rfl sizeV ?_)
          refine HTk.out.mono ?_
          rintro e w8 ⟨rfl, K', wh', ln2, lv2, htz, hl2, hc, hk⟩
          obtain ⟨rfl, rfl, hval⟩ := take_is HDv.out HR.out.2.2.1 HOk.out.val htz
          have HC8 := Lib.hid hc
          have HK8 := Lib.hid (HR.out.2.2.2.trans ((Kt.of_below HB7.out).trans hk))
          have HV8 := Lib.hid hval
          have HL8 := Lib.hid (show ln2 ≤ ln + 2 * (j + 1) from by have := HR.out.2.1; omega)
          have HTn := Lib.hid (show ids ++ idsV (A.take (j + 1)) = ids ++ idsV (A.take j) ++ idsV [x] from by rw [List.take_add_one, HXx.out]; show ids ++ idsV (A.take j ++ [x]) = _; rw [idsV_app, List.append_assoc])
          clear htz hl2 hc hk hval
          have hj1 : j < 120301 := by have := HAln.out; omega
          go_wp2_with fail
          go_round
          case rel => exact ⟨j + 1, ln2, lv2, by omega, by go_num, Lib.hid ⟨by rw [HTn.out]; exact HC8.out, HL8.out, by rw [HTn.out]; exact HV8.out, HK8.out⟩⟩
          case measure => simp [intOf]; omega
        · obtain rfl : j = A.length := by omega
          have HTn := Lib.hid (show ids ++ idsV (A.take A.length) = allIds M u g (L.take (i + 1)) from by rw [List.take_length, HAid.out, HNx.out])
          go_wp2_with fail
          go_round
          case rel => exact ⟨i + 1, ln', lv', by omega, by go_num, Lib.hid ⟨by rw [← HTn.out]; exact HR.out.1, by have h1 := HR.out.2.1; have h2 := HLn.out; have h3 := HAln.out; omega, by rw [← HTn.out, List.length_append]; have h1 := HLi.out; have h2 := idsV_len (A.take A.length); rw [List.length_take] at h2; have h3 := HAln.out; omega, by rw [← HTn.out]; exact HR.out.2.2.1, HK5.out.trans HR.out.2.2.2⟩⟩
          case measure => simp [intOf]; omega
    · obtain rfl : i = L.length := by omega
      have HFi := Lib.hid (show allIds M u g (L.take L.length) = allIds M u g L from by rw [List.take_length])
      have HCu := Lib.hid (fun W (hb : Below wr.heap.size wr W) => countUnits_any _ (HR.out.1.keep hb) (cnt_bd H.each (blkI M) (allIds M u g (L.take L.length))) h5)
      have HBw := Lib.hid HR.out.1.low
      obtain ⟨_, _, _, _, _, _, c208, c209, _⟩ := HR.out.1.cells rfl
      clear HR HW5
      rw [HFi.out] at HCu c208
      obtain ⟨z, hz⟩ : ∃ z, cntZ H.each (blkI M) (allIds M u g L) = z := ⟨_, rfl⟩
      rw [hz] at HCu c208
      have HZ := Lib.hid hz
      clear hz
      go_upto_region 11 with fail
      go_quiet (first | (go_at_call 21; refine Calls.quiet_of_same (same_sym (HCu.out _ (by first | exact Below.refl _ _ | exact (Below.refl _ _).drew | exact below_drewNb (Below.refl _ _))))))
      go_wp2_with fail
      go_ret2
      exact Exists.intro lv ⟨by rw [HZ.out]; rfl, below_drewNb HBw.out⟩
end
end Go.Proofs.YtpikndeefiediaaGreatDoor.U

namespace Go.Proofs.YtpikndeefiediaaGreatDoor.U
open Go.Proofs.YtpikndeefiediaaGreatDoor.B
open Go.RowKit Go.Maps

theorem ints_at {l : List Int} {j : Nat} {x : Int} (h : l[j]? = some x) : (V.ints l)[j]? = some (.int .i64 x) := by
  unfold V.ints
  rw [List.getElem?_map, h]
  rfl
theorem ents_at : ∀ {l : List (ByteArray × Int)} {j : Nat} {e : ByteArray × Int}, l[j]? = some e → (V.entCells l)[j * 2]? = some (.string e.1) ∧ (V.entCells l)[j * 2 + 1]? = some (.int .i64 e.2)
  | [], j, e, h => by simp at h
  | x :: r, 0, e, h => by
    obtain rfl := Option.some.inj h
    exact ⟨rfl, rfl⟩
  | x :: r, j + 1, e, h => by
    have := ents_at (l := r) (j := j) (e := e) (by simpa using h)
    rw [show (j + 1) * 2 = j * 2 + 1 + 1 by omega]
    exact this
theorem starts_row {W : World} {g : Nat} {L : List (Int × ByteArray)} {t : TypeId} (h : W.heap[g]? = some (.cells (cellsC stC L).toArray t (0, 0))) : RowL 2 stC W (some ⟨g, 0, none⟩) L :=
  .inr ⟨g, 0, rfl, heap_lt h, fun i x hx j v hv => by
    have hj : j < 2 := (List.getElem?_eq_some_iff.1 hv).1
    have e := cellsC_get stC_len L i j x hx hj
    rw [hv] at e
    rw [cell_of_row _ _ _ _ _ _ h, Nat.zero_add]
    simpa using e⟩
/-! ### what was reached, by the law's own list -/
structure Got (M : List V.Nd) (R : List Int) (k : Nat) : Prop where
  head : R[0]? = some 0
  once : R.Nodup
  reach : ∀ x ∈ R, Reach (G.treeM M 0 0 true) 0 x
  val : ∀ x ∈ R, Val M x
  ok : ∀ j x, j < k → R[j]? = some x → (∀ n, V.atM M x = some n → n.dead = false) ∧ blkI M x ≤ 1099511627776 ∧ ∀ e ∈ V.listL M x, V.overI M e.2 ∈ R
/-- Amid the entries of number k. -/
structure Amid (M : List V.Nd) (R : List Int) (k : Nat) (x : Int) (E : List (ByteArray × Int)) (q : Nat) : Prop where
  got : Got M R k
  at_ : R[k]? = some x
  done : ∀ e ∈ E.take q, V.overI M e.2 ∈ R
theorem Got.len {M : List V.Nd} {R : List Int} {k : Nat} (h : Got M R k) : R.length ≤ M.length :=
  G.nodup_few M.length R h.once fun x hx => by
    obtain ⟨j, n, rfl, hn⟩ := h.val x hx
    have := (List.getElem?_eq_some_iff.1 hn).1
    omega
theorem get_app {R : List Int} {j : Nat} {x y : Int} (h : R[j]? = some x) : (R ++ [y])[j]? = some x := by
  rw [List.getElem?_append_left (List.getElem?_eq_some_iff.1 h).1]
  exact h
theorem get_app_lt {R : List Int} {j : Nat} {x y : Int} (hj : j < R.length) (h : (R ++ [y])[j]? = some x) : R[j]? = some x := by
  rwa [List.getElem?_append_left hj] at h
theorem Got.first {M : List V.Nd} (R : V.RI M) : Got M [0] 0 := by
  obtain ⟨n, h1, _, _⟩ := R.root
  refine ⟨rfl, List.pairwise_singleton _ _, fun x hx => ?_, fun x hx => ?_, fun j x hj => by omega⟩
  · obtain rfl := List.mem_singleton.1 hx; exact .here _
  · obtain rfl := List.mem_singleton.1 hx; exact ⟨0, n, rfl, h1⟩
/-- One more is reached. -/
theorem Got.more {M : List V.Nd} {R : List Int} {k : Nat} (h : Got M R k) (hk : k ≤ R.length) {y : Int} (hn : y ∉ R) (hr : Reach (G.treeM M 0 0 true) 0 y) (hv : Val M y) : Got M (R ++ [y]) k := by
  refine ⟨get_app h.head, ?_, fun x hx => ?_, fun x hx => ?_, fun j x hj hx => ?_⟩
  · exact List.nodup_append.2 ⟨h.once, List.pairwise_singleton _ _, fun a ha b hb e => by
      obtain rfl := List.mem_singleton.1 hb
      exact hn (e ▸ ha)⟩
  · rcases List.mem_append.1 hx with hx | hx
    · exact h.reach x hx
    · obtain rfl := List.mem_singleton.1 hx; exact hr
  · rcases List.mem_append.1 hx with hx | hx
    · exact h.val x hx
    · obtain rfl := List.mem_singleton.1 hx; exact hv
  · obtain ⟨h1, h2, h3⟩ := h.ok j x hj (get_app_lt (by omega) hx)
    exact ⟨h1, h2, fun e he => List.mem_append_left _ (h3 e he)⟩
/-- What an entry leads to is reached. -/
theorem Amid.leads {M : List V.Nd} {R : List Int} {k q : Nat} {x : Int} (h : Amid M R k x (V.listL M x) q) (hR : V.RI M) {e : ByteArray × Int} (he : (V.listL M x)[q]? = some e) : Reach (G.treeM M 0 0 true) 0 (V.overI M e.2) ∧ Val M (V.overI M e.2) := by
  have hm : e ∈ V.listL M x := List.mem_of_getElem? he
  have hx := h.got.reach x (List.mem_of_getElem? h.at_)
  have hs : e ∈ ((G.treeM M 0 0 true).shown x).2 := (shown_all M 0 0 x e).2 hm
  refine ⟨hx.next e (decide_eq_true (list_dir hm)) hs, ?_⟩
  have hg := (G.shown_good hR true x hs).2
  exact val_over hR (val_lt hg.1 hg.2)
theorem take_one {α : Type} {l : List α} {q : Nat} {e : α} (h : l[q]? = some e) : l.take (q + 1) = l.take q ++ [e] := by rw [List.take_add_one, h]; rfl
theorem Amid.in_ {M : List V.Nd} {R : List Int} {k q : Nat} {x : Int} {E : List (ByteArray × Int)} (h : Amid M R k x E q) {e : ByteArray × Int} (he : E[q]? = some e) (hm : V.overI M e.2 ∈ R) : Amid M R k x E (q + 1) :=
  ⟨h.got, h.at_, fun d hd => by
    rw [take_one he] at hd
    rcases List.mem_append.1 hd with hd | hd
    · exact h.done d hd
    · obtain rfl := List.mem_singleton.1 hd; exact hm⟩
theorem Amid.out_ {M : List V.Nd} {R : List Int} {k q : Nat} {x : Int} (h : Amid M R k x (V.listL M x) q) (hR : V.RI M) {e : ByteArray × Int} (he : (V.listL M x)[q]? = some e) (hm : V.overI M e.2 ∉ R) : Amid M (R ++ [V.overI M e.2]) k x (V.listL M x) (q + 1) := by
  obtain ⟨h1, h2⟩ := h.leads hR he
  have hk : k < R.length := (List.getElem?_eq_some_iff.1 h.at_).1
  refine ⟨h.got.more (by omega) hm h1 h2, get_app h.at_, fun d hd => ?_⟩
  rw [take_one he] at hd
  rcases List.mem_append.1 hd with hd | hd
  · exact List.mem_append_left _ (h.done d hd)
  · obtain rfl := List.mem_singleton.1 hd
    exact List.mem_append_right _ (List.mem_singleton.2 rfl)
/-- Number k is done. -/
theorem Amid.next {M : List V.Nd} {R : List Int} {k : Nat} {x : Int} (h : Amid M R k x (V.listL M x) (V.listL M x).length) (hd : ∀ n, V.atM M x = some n → n.dead = false) (hb : blkI M x ≤ 1099511627776) : Got M R (k + 1) := by
  refine ⟨h.got.head, h.got.once, h.got.reach, h.got.val, fun j y hj hy => ?_⟩
  rcases Nat.lt_or_ge j k with q | q
  · exact h.got.ok j y q hy
  · obtain rfl : j = k := by omega
    rw [h.at_] at hy
    obtain rfl := Option.some.inj hy
    refine ⟨hd, hb, fun e he => h.done e ?_⟩
    rw [List.take_length]
    exact he
/-- All is reached. -/
theorem Got.all {M : List V.Nd} {R : List Int} (h : Got M R R.length) : All M R := by
  have at_ : ∀ x ∈ R, ∃ j, j < R.length ∧ R[j]? = some x := fun x hx => by
    obtain ⟨j, hj⟩ := List.mem_iff_getElem?.1 hx
    exact ⟨j, (List.getElem?_eq_some_iff.1 hj).1, hj⟩
  refine ⟨List.mem_of_getElem? h.head, h.once, h.reach, fun x hx hk => ?_, fun x hx e he => ?_⟩
  · obtain ⟨j, hj, hx⟩ := at_ x hx
    have hd := (h.ok j x hj hx).1
    obtain ⟨i, n, _, _, hk2, ha⟩ := G.kind_at hk
    unfold V.listE
    rw [ha]
    dsimp only
    rw [if_pos hk2, hd n ha]
    rfl
  · obtain ⟨j, hj, hx⟩ := at_ x hx
    exact (h.ok j x hj hx).2.2 e he
theorem Got.small {M : List V.Nd} {R : List Int} (h : Got M R R.length) : ∀ x ∈ R, blkI M x ≤ 1099511627776 := fun x hx => by
  obtain ⟨j, hj⟩ := List.mem_iff_getElem?.1 hx
  exact (h.ok j x (List.getElem?_eq_some_iff.1 hj).1 hj).2.1
theorem Got.sum_bd {M : List V.Nd} {R : List Int} {k : Nat} (h : Got M R k) (hB : BlkM M) (hk : k ≤ R.length) : 0 ≤ sumB (blkI M) (R.take k) ∧ sumB (blkI M) (R.take k) ≤ 1099511627776 * (k : Int) := by
  have := sum_le (b := blkI M) (K := 1099511627776) (R.take k) fun x hx => by
    obtain ⟨j, hj⟩ := List.mem_iff_getElem?.1 hx
    have hjk : j < k := by have := (List.getElem?_eq_some_iff.1 hj).1; rw [List.length_take] at this; omega
    rw [List.getElem?_take, if_pos hjk] at hj
    exact ⟨(blkI_nonneg hB x).1, (h.ok j x hjk hj).2.1⟩
  rw [List.length_take, Nat.min_eq_left hk] at this
  exact this
/-! ### the sums -/
theorem start_root {M : List V.Nd} (R : V.RI M) : startIds M 0 0 0 = rootIds M := by
  obtain ⟨n, h1, _, _⟩ := R.root
  unfold startIds
  have e : V.nodeEr M 0 = 0 := er_of_val ⟨0, n, rfl, h1⟩
  rw [if_pos e]
  rfl
theorem whole_is {M : List V.Nd} {m : List Int} (h : All M m) (hG : G.Good M) (hN : M.length ≤ 100) (hB : BlkM M) (hb : ∀ x ∈ m, blkI M x ≤ 1099511627776) (hm : m.length ≤ 300) (s t r : ByteArray) :
    unitsZ (cntZ false (blkI M) (allIds M 0 0 [(0, s), (0, t)])) 512 = sumB (blkI M) m ∧ sumB (blkI M) m ≤ unitsZ (cntZ true (blkI M) (allIds M 0 0 [(0, r)])) 512 := by
  have hid := h.ids hG.ri hG.ui hN hG.ents
  have hln : (rootIds M).length ≤ 120301 := by
    rw [← start_root hG.ri, ← walkL_ids M 0 0 0 s, List.length_map]
    exact Nat.le_trans (List.length_filter_le _ _) (walkL_len hG 0 0 0 s)
  have hbd : ∀ x ∈ rootIds M, 0 ≤ blkI M x ∧ blkI M x ≤ 1099511627776 := fun x hx => ⟨(blkI_nonneg hB x).1, hb x ((hid x).1 hx)⟩
  have e1 : allIds M 0 0 [(0, r)] = rootIds M := by
    show startIds M 0 0 0 ++ [] = _
    rw [List.append_nil, start_root hG.ri]
  have e2 : allIds M 0 0 [(0, s), (0, t)] = rootIds M ++ rootIds M := by
    show startIds M 0 0 0 ++ (startIds M 0 0 0 ++ []) = _
    rw [List.append_nil, start_root hG.ri]
  have hsm := sum_le (b := blkI M) (K := 1099511627776) m (fun x hx => ⟨(blkI_nonneg hB x).1, hb x hx⟩)
  have hsl : (1099511627776 : Int) * m.length ≤ 1099511627776 * 300 := Int.mul_le_mul_of_nonneg_left (by omega) (by decide)
  have hon : sumB (blkI M) (onceL (rootIds M)) = sumB (blkI M) m := once_sum (blkI M) h.once hid
  have hon2 : sumB (blkI M) (onceL (rootIds M ++ rootIds M)) = sumB (blkI M) m := once_sum (blkI M) h.once fun x => by
    rw [List.mem_append, or_self]
    exact hid x
  have hle := once_le (b := blkI M) (rootIds M).length (rootIds M) rfl (fun x hx => (hbd x hx).1)
  have hri := sum_le (b := blkI M) (K := 1099511627776) (rootIds M) hbd
  have hrl : (1099511627776 : Int) * (rootIds M).length ≤ 1099511627776 * 120301 := Int.mul_le_mul_of_nonneg_left (by omega) (by decide)
  have c1 : cntZ false (blkI M) (rootIds M ++ rootIds M) = sumB (blkI M) m := by
    rw [cnt_once (fun x hx => by rcases List.mem_append.1 hx with q | q <;> exact hbd x q) (by rw [List.length_append]; omega)]
    exact hon2
  have c2 : cntZ true (blkI M) (rootIds M) = sumB (blkI M) (rootIds M) := cnt_each hbd (by omega)
  rw [e1, e2, c1, c2]
  by_cases hbig : sumB (blkI M) (rootIds M) ≤ 18014398509481983
  · rw [units_512 hsm.1 (by omega), units_512 hri.1 hbig]
    exact ⟨rfl, by omega⟩
  · refine ⟨units_512 hsm.1 (by omega), ?_⟩
    have : sumB (blkI M) m ≤ 329853488332800 := by omega
    have hc : N.ceilZ 9223372036854775807 512 = 18014398509481984 := by decide +kernel
    unfold unitsZ
    rw [if_neg (show ¬ sumB (blkI M) (rootIds M) < 1 by omega), if_pos (show 18014398509481983 < sumB (blkI M) (rootIds M) by omega), if_neg (show ¬ (512 : Int) < 1 by decide), hc]
    omega
end Go.Proofs.YtpikndeefiediaaGreatDoor.U
