/-
  That the law UsageWhole returns true. Conditions: the table of classes lies as its text lays it; what came in lies in memory.
  The law UsageWhole (promise P14.3: of the root, by the uid 0, the whole is the blocks of all nodes that are reached, each once) returns true for every input and leaves its argument alone. Conditions: the card's own, no other.
-/
import Derived.Test.YtpikndeefiediaaGreatDoorKUWhole
import Derived.Test.YtpikndeefiediaaGreatDoorKGTab
set_option linter.unusedVariables false
set_option linter.unusedSimpArgs false
namespace Go.Proofs.YtpikndeefiediaaGreatDoor.U
open Go.Proofs.YtpikndeefiediaaGreatDoor.B
open Go.RowKit Go.Maps

/-- What lies at w9 but for a row of integers stays. -/
def Kx (w w' : World) : Prop := w.heap.size ≤ w'.heap.size ∧ ∀ (k : Nat) cur t fr, w.heap[k]? = some (.cells cur t fr) → t ≠ 3 → w'.heap[k]? = some (.cells cur t fr)
theorem Kx.refl (w : World) : Kx w w := ⟨Nat.le_refl _, fun _ _ _ _ h _ => h⟩
theorem Kx.trans {a b c : World} (h : Kx a b) (h2 : Kx b c) : Kx a c := ⟨Nat.le_trans h.1 h2.1, fun k cur t fr hk h3 => h2.2 k cur t fr (h.2 k cur t fr hk h3) h3⟩
theorem Kx.of_below {w w' : World} (h : Below w.heap.size w w') : Kx w w' := ⟨h.size, fun k cur t fr hk _ => (h.block k (heap_lt hk)).trans hk⟩
theorem Kx.of_grown {w w' : World} {base n : Nat} {v : Value} {xs : List Value} (ho : w.ownsRow base 3 1 v n xs) (hg : w.grownBy w' v.ownBlock) : Kx w w' := ⟨hg.size, fun k cur t fr hk ht => by
  rw [hg.block k (heap_lt hk) fun e => ?_]
  · exact hk
  · obtain ⟨cur', hc⟩ := owns_type ho e.symm
    rw [hk] at hc
    simp only [Option.some.injEq, Obj.cells.injEq] at hc
    exact ht hc.2.1⟩
theorem Kx.owns {w w' : World} (h : Kx w w') {base : Nat} {e : TypeId} {size n : Nat} {v : Value} {xs : List Value} (ho : w.ownsRow base e size v n xs) (h1 : e ≠ 3) : w'.ownsRow base e size v n xs :=
  owns_at ho fun k hk => by
    obtain ⟨cur, hc⟩ := owns_type ho hk
    rw [h.2 k _ _ _ hc h1, hc]
theorem infoI : (Tryz.prog.info? 3).map (fun i => (i.zero, i.size, i.bytes)) = some (some (.int .i64 0), 1, 8) := by kernel_rfl
theorem info_int : ∃ i, Tryz.prog.info? 3 = some i ∧ i.zero = some (.int .i64 0) ∧ i.size = 1 ∧ i.bytes = 8 := by
  obtain ⟨i, hi, e⟩ := Option.map_eq_some_iff.1 infoI
  simp only [Prod.mk.injEq] at e
  exact ⟨i, hi, e.1, e.2.1, e.2.2⟩
/-- Ahead of number k of what is reached. -/
def ReaRel (M : List V.Nd) (w5 : World) (v5 v6 v7 : Value) (wr : World) : Prop :=
  ∃ (R : List Int) (k : Nat), k ≤ R.length ∧ v6 = .int .i64 (sumB (blkI M) (R.take k)) ∧ v7 = .int .i64 (k : Int) ∧ Hid (Got M R k) ∧ Hid (wr.ownsRow w5.heap.size 3 1 v5 R.length (V.ints R)) ∧ Hid (Below w5.heap.size w5 wr)
/-- Ahead of entry q of number k. -/
def EntRel (M : List V.Nd) (w5 w9 : World) (R0 : List Int) (k : Nat) (x : Int) (v5 v12 : Value) (wr : World) : Prop :=
  ∃ (R : List Int) (q : Nat), q ≤ (V.listL M x).length ∧ v12 = .int .i64 (q : Int) ∧ R.take R0.length = R0 ∧ R0.length ≤ R.length ∧ Hid (Amid M R k x (V.listL M x) q) ∧ Hid (wr.ownsRow w5.heap.size 3 1 v5 R.length (V.ints R)) ∧ Hid (Below w5.heap.size w5 wr) ∧ Hid (Kx w9 wr)
/-- Ahead of the look at number j. -/
def IsRel (R : List Int) (id : Int) (w9 : World) (v14 v15 : Value) (wr : World) : Prop :=
  ∃ j : Nat, j ≤ R.length ∧ v15 = .int .i64 (j : Int) ∧ v14 = .bool (decide (id ∈ R.take j)) ∧ w9 = wr
set_option maxRecDepth 100000 in
set_option maxHeartbeats 16000000 in
theorem whole_any (cs : List V.Chg) (a : Option Addr) (cap : Nat) (w : World) (H : V.IsChgs w a cs) (ht : P.Tab w) (hl : cs.length ≤ 9223372036854775807) (hz : ∀ c ∈ cs, (c.name.size ≤ 9223372036854775807 ∧ c.text.size ≤ 9223372036854775807) ∧ -9223372036854775808 ≤ c.n ∧ c.n ≤ 9223372036854775807) :
    Calls Tryz.prog 3 #[.slice a cs.length cap] w fun e w' => e = .returned (.bool true) ∧ Below w.heap.size w w' := by
  have HFw := Lib.hid (fun (W : World) (hb : Below w.heap.size w W) => V.few_any cs a cap 50 W (H.keep hb) hl (fun c hc => (hz c hc).1))
  have HMd := Lib.hid (fun (W : World) (hb : Below w.heap.size w W) (h4 : cs.length ≤ 400) (hf : V.FewL cs) => V.made_any cs a cap W (H.keep hb) h4 hf (fun c hc => (hz c hc).2))
  have HBk := Lib.hid (show BlkM (V.runM cs V.newM) from runM_blk cs V.newM (fun c hc => (hz c hc).2.2) blk_new)
  have HT := Lib.hid ht
  clear H hz ht
  go_enter Tryz.func3, Tryz.ntmps3
  go_upto_region 1 with fail
  go_wp2_with fail
  refine (awakeU_any _).mono ?_
  rintro e w2 ⟨rfl, rfl⟩
  go_wp2_with fail
  refine (HFw.out _ (Below.refl _ _)).mono ?_
  rintro e w3 ⟨b, rfl, hb, rfl⟩
  have HBb := Lib.hid hb
  clear hb
  cases b with
  | false =>
    go_wp2_with fail
    refine (awakeU_any _).mono ?_
    rintro e w4 ⟨rfl, rfl⟩
    go_wp2_with fail
    go_ret
    exact ⟨rfl, Below.refl _ _⟩
  | true =>
    obtain ⟨f1, f2⟩ := HBb.out.1 rfl
    have HFL := Lib.hid f1
    clear f1
    have hl6 : cs.length ≤ 50 := by omega
    have HM := Lib.hid (HMd.out _ (Below.refl _ _) (by omega) HFL.out)
    have HG := Lib.hid (G.good_run cs (by omega))
    have HDv := Lib.hid (V.runM_dev cs V.newM V.devInv_new)
    have HLn := Lib.hid (show (V.runM cs V.newM).length ≤ 51 from by
      have h1 := runM_len cs V.newM
      have h2 : V.newM.length = 1 := rfl
      omega)
    clear HMd HFw f2 HBb HFL
    generalize V.runM cs V.newM = M at HM HG HDv HLn HBk
    go_upto_region 3 with fail
    go_wp2_with fail
    refine HM.out.mono ?_
    rintro e w4 ⟨p, r, L, rfl, T4, l4⟩
    have HR4 := Lib.hid T4.rs
    have HF4 := Lib.hid T4.fs
    have HN4 := Lib.hid (V.rs_one T4.rs)
    have HB4 := Lib.hid T4.fs.below
    clear T4 HM l4
    go_upto_region 4 with (refine wpList_store_row rfl 31 (.tmp 4) (.tmp 32) rfl w4.heap.size #[r.n, r.l, r.c, r.d, r.a, r.f] rfl rfl 31 V.nilsR (heap_alloc_new _ _) V.sizeRef rfl HN4.out ?_; rw [World.setRow_alloc_new])
    have HA5 := Lib.hid (show Below w4.heap.size w4 (w4.alloc (.cells #[r.n, r.l, r.c, r.d, r.a, r.f] 31)) from (Below.refl _ _).alloc (Nat.le_refl _) _)
    have HX5 := Lib.hid (heap_alloc_new w4 (.cells #[r.n, r.l, r.c, r.d, r.a, r.f] 31))
    generalize w4.alloc (.cells #[r.n, r.l, r.c, r.d, r.a, r.f] 31) = w5 at HA5 HX5 ⊢
    have HF5 := Lib.hid (HF4.out.keep HA5.out)
    have HR5 := Lib.hid (HR4.out.keep HA5.out)
    have HB5 := Lib.hid (below_two HB4.out HA5.out)
    have HT5 := Lib.hid (HT.out.keep HB5.out)
    generalize w4.heap.size = B4 at HX5 ⊢
    clear HF4 HR4 HN4 HA5 HB4 HT
    go_upto_region 6 with fail
    have HO0 := Lib.hid (show (w5.alloc (.cells #[.int .i64 0] 3)).ownsRow w5.heap.size 3 1 (.slice (some ⟨w5.heap.size, 0, none⟩) 1 1) 1 (V.ints [0]) from ⟨rfl, .inr ⟨w5.heap.size, 1, #[.int .i64 0], rfl, Nat.le_refl _, heap_alloc_new _ _, Nat.le_refl _, by unfold maxLen; omega, rfl, rfl⟩⟩)
    have HB6 := Lib.hid (show Below w5.heap.size w5 (w5.alloc (.cells #[.int .i64 0] 3)) from (Below.refl _ _).alloc (Nat.le_refl _) _)
    have HNd := Lib.hid (show ∀ (i : Int) (W : World), Below w5.heap.size w5 W → Calls Tryz.prog 7 #[.pointer (some ⟨p, 0, none⟩), .int .i64 i] W fun e w' => e = .returned (.tuple #[P.nodeV (V.nvAt M i), .int .i64 (V.nodeEr M i)]) ∧ Below W.heap.size W w' from fun i W hb => by
      rw [← V.nodeV_nv]
      exact V.has_nodeI i (HF5.out.keep hb) HG.out.pos)
    unfold P.nodeV at HNd
    have HLs := Lib.hid (fun (i : Int) (W : World) (hb : Below w5.heap.size w5 W) => V.has_list i (HF5.out.keep hb) HG.out.pos (fun n hn => by have := HG.out.ents n hn; omega))
    have HOv := Lib.hid (fun (i : Int) (W : World) (hb : Below w5.heap.size w5 W) => V.has_over i (HF5.out.keep hb) HG.out.pos)
    generalize w5.alloc (.cells #[.int .i64 0] 3) = w6 at HO0 HB6 ⊢
    obtain ⟨gd, cd, hrd, _, _⟩ := owns_some HR5.out.hd HG.out.pos
    have HDd := Lib.hid (show ∀ W, Below w5.heap.size w5 W → W.cell? ⟨B4, 3, none⟩ = some (.slice (some ⟨gd, 0, none⟩) M.length cd) ∧ ∀ (i : Nat) (n : V.Nd), M[i]? = some n → W.cell? ⟨gd, i, none⟩ = some (.bool n.dead) from fun W hb => by
      refine ⟨?_, fun i n hn => ?_⟩
      · rw [cell_of_row _ _ _ _ _ _ ((hb.block _ (heap_lt HX5.out)).trans HX5.out), ← hrd]; rfl
      · have ho := HR5.out.hd
        rw [hrd] at ho
        refine owns_cell (owns_keep ho hb) ?_
        unfold V.deads
        rw [List.getElem?_map, hn]
        rfl)
    clear hrd
    go_wp2_with fail
    go_loopw [5, 6, 7] (ReaRel M w5) (fun _ _ v _ => M.length - (intOf v).toNat)
    case atStart => exact ⟨[0], 0, Nat.zero_le _, rfl, rfl, Lib.hid (Got.first HG.out.ri), HO0, HB6⟩
    case round =>
      obtain ⟨R, k, hk, rfl, rfl, HGt, HO, HBr⟩ := hrel
      have hRl := HGt.out.len
      have hMl := HLn.out
      obtain ⟨ra, rc, hv5⟩ := owns_form HO.out
      subst hv5
      by_cases hlt : k < R.length
      · obtain ⟨x, hx⟩ : ∃ x, R[k]? = some x := ⟨_, List.getElem?_eq_getElem hlt⟩
        obtain ⟨gr, cr, hv, hc1, hc2⟩ := owns_some HO.out (by omega)
        simp only [Value.slice.injEq] at hv
        obtain ⟨rfl, _, rfl⟩ := hv
        have HXx := Lib.hid hx
        have x0 : wr.cell? ⟨gr, k, none⟩ = some (.int .i64 x) := owns_cell HO.out (ints_at hx)
        have HVa := Lib.hid (HGt.out.val x (List.mem_of_getElem? hx))
        clear hx
        go_wp2_with fail
        refine (HNd.out x _ HBr.out).mono ?_
        rintro e w7 ⟨rfl, hb7⟩
        have HB7 := Lib.hid hb7
        clear hb7 x0
        go_upto_region 10 with fail
        have HB8 := Lib.hid (show Below w7.heap.size w7 (w7.alloc (.cells (nodeA (V.nvAt M x)) 36)) from (Below.refl _ _).alloc (Nat.le_refl _) _)
        have HX8 := Lib.hid (heap_alloc_new w7 (.cells (nodeA (V.nvAt M x)) 36))
        unfold nodeA at HB8 HX8
        generalize w7.alloc (.cells #[.int .i64 (V.nvAt M x).dev, .int .i64 (V.nvAt M x).ino, .int .i64 (V.nvAt M x).kind, .int .i64 (V.nvAt M x).mode, .int .i64 (V.nvAt M x).uid, .int .i64 (V.nvAt M x).gid, .int .i64 (V.nvAt M x).size, .int .i64 (V.nvAt M x).blocks, .int .i64 (V.nvAt M x).links, .int .i64 (V.nvAt M x).ta, .int .i64 (V.nvAt M x).tb, .int .i64 (V.nvAt M x).tc, .string (V.nvAt M x).target] 36) = w8 at HB8 HX8 ⊢
        generalize w7.heap.size = B8 at HX8 ⊢
        have HBr8 := Lib.hid (show Below w5.heap.size w5 w8 from below_two (below_two HBr.out HB7.out) (HB8.out))
        have HO8 := Lib.hid (show w8.ownsRow w5.heap.size 3 1 (.slice (some ⟨gr, 0, none⟩) R.length rc) R.length (V.ints R) from owns_to (owns_to HO.out HB7.out) HB8.out)
        clear HB7 HB8 HBr HO
        obtain ⟨i, n, rfl, hn⟩ := HVa.out
        have HNn := Lib.hid (show V.atM M (i : Int) = some n from G.at_num hn)
        obtain ⟨d0, d1⟩ := HDd.out _ HBr8.out
        have d2 := d1 i n hn
        have hi51 : i < M.length := (List.getElem?_eq_some_iff.1 hn).1
        clear d1 hn HVa
        have x0 : w8.cell? ⟨gr, k, none⟩ = some (.int .i64 (i : Int)) := owns_cell HO8.out (ints_at HXx.out)
        have b7 : w8.cell? ⟨B8, 7, none⟩ = some (.int .i64 (blkI M i)) := by rw [cell_of_row _ _ _ _ _ _ HX8.out]; rfl
        have HBn := Lib.hid (blkI_nonneg HBk.out (i : Int))
        obtain ⟨b, hb⟩ : ∃ b, blkI M i = b := ⟨_, rfl⟩
        rw [hb] at b7 HBn
        have HBe := Lib.hid hb
        clear hb
        have hbn := HBn.out
        have HW8 := Lib.hid (show Below w3.heap.size w3 w8 from below_two HB5.out HBr8.out)
        by_cases hd : n.dead = true
        · rw [hd] at d2
          go_quiet (fail)
          go_wp2_with fail
          go_ret
          exact ⟨rfl, below_drewNb HW8.out⟩
        have hd : n.dead = false := by simpa using hd
        rw [hd] at d2
        have HDf := Lib.hid (show ∀ m, V.atM M (i : Int) = some m → m.dead = false from fun m hm => by
          rw [HNn.out] at hm
          obtain rfl := Option.some.inj hm
          exact hd)
        by_cases hbig : 1099511627776 < b
        · have e1 : decide (b > 1099511627776) = true := decide_eq_true hbig
          go_quiet (fail)
          go_wp2_with fail
          go_ret
          exact ⟨rfl, below_drewNb HW8.out⟩
        have e1 : decide (b > 1099511627776) = false := decide_eq_false hbig
        have HSb := Lib.hid (HGt.out.sum_bd HBk.out hk)
        have HSn := Lib.hid (show sumB (blkI M) (R.take (k + 1)) = sumB (blkI M) (R.take k) + b from by rw [take_one HXx.out, sumB_snoc, HBe.out])
        generalize sumB (blkI M) (R.take k) = S at HSb HSn ⊢
        have hsb := HSb.out
        go_quiet (fail)
        have HBr9 := Lib.hid (show Below w5.heap.size w5 (w8.drewN nq) from below_drewNb HBr8.out)
        have HO9 := Lib.hid (show (w8.drewN nq).ownsRow w5.heap.size 3 1 (.slice (some ⟨gr, 0, none⟩) R.length rc) R.length (V.ints R) from owns_at HO8.out fun _ _ => rfl)
        have b9 : (w8.drewN nq).cell? ⟨B8, 7, none⟩ = some (.int .i64 b) := b7
        have x9 : (w8.drewN nq).cell? ⟨gr, k, none⟩ = some (.int .i64 (i : Int)) := x0
        clear b7 x0 d0 d2 HX8 HBr8 HO8 HW8
        generalize w8.drewN nq = w9 at HBr9 HO9 b9 x9 ⊢
        have hEl : (V.listL M (i : Int)).length ≤ 400 := by
          unfold V.listL
          rw [HNn.out]
          obtain ⟨jn, hjn, hmn⟩ := V.atM_some HNn.out
          have h0 := HG.out.ents n (List.mem_of_getElem? hmn)
          dsimp only
          repeat' split
          all_goals first | exact h0 | exact Nat.zero_le _
        go_wp2_with fail
        refine (HLs.out (i : Int) _ HBr9.out).mono ?_
        rintro e w10 ⟨lv, rfl, hol, hb10⟩
        obtain ⟨la, lc, hlv⟩ := owns_form hol
        subst hlv
        have HOl := Lib.hid hol
        have HBa := Lib.hid (below_two HBr9.out hb10)
        have HOa := Lib.hid (owns_to HO9.out hb10)
        clear hol hb10 b9 x9 HO9 HBr9
        go_wp2_with fail
        go_loopw [5, 12] (EntRel M w5 w10 R k (i : Int)) (fun _ v _ => (V.listL M (i : Int)).length - (intOf v).toNat)
        case atStart => exact ⟨R, 0, Nat.zero_le _, rfl, List.take_length, Nat.le_refl _, Lib.hid ⟨HGt.out, HXx.out, fun e he => (by rw [List.take_zero] at he; cases he)⟩, HOa, HBa, Lib.hid (Kx.refl _)⟩
        case round =>
          obtain ⟨R1, q, hq, rfl, hpre, hle, HAm, HO, HB, HKx⟩ := hrel
          have hR1 := HAm.out.got.len
          obtain ⟨ra1, rc1, hv5⟩ := owns_form HO.out
          subst hv5
          have hR0 : 0 < R1.length := by omega
          obtain ⟨g1, c1, hv, hc11, hc12⟩ := owns_some HO.out hR0
          simp only [Value.slice.injEq] at hv
          obtain ⟨rfl, _, rfl⟩ := hv
          by_cases hq2 : q < (V.listL M (i : Int)).length
          · obtain ⟨en, hen⟩ : ∃ en, (V.listL M (i : Int))[q]? = some en := ⟨_, List.getElem?_eq_getElem hq2⟩
            obtain ⟨gl, cl, hlv, _, _⟩ := owns_some HOl.out (by omega)
            simp only [Value.slice.injEq] at hlv
            obtain ⟨rfl, _, rfl⟩ := hlv
            have e0 : wr.cell? ⟨gl, q * 2 + 1, none⟩ = some (.int .i64 en.2) := owns_cell (HKx.out.owns HOl.out (by decide)) (ents_at hen).2
            have HEn := Lib.hid hen
            clear hen
            go_wp2_with fail
            refine (HOv.out en.2 _ HB.out).mono ?_
            rintro e wz ⟨rfl, rfl⟩
            obtain ⟨y, hy⟩ : ∃ y, V.overI M en.2 = y := ⟨_, rfl⟩
            rw [hy]
            have HY := Lib.hid hy
            clear hy e0
            go_wp2_with fail
            go_loopw [14, 15] (IsRel R1 y wr) (fun _ v _ => R1.length - (intOf v).toNat)
            case atStart => exact ⟨0, Nat.zero_le _, rfl, by simp, rfl⟩
            case round =>
              obtain ⟨j, hj, rfl, rfl, rfl⟩ := hrel
              by_cases hj2 : j < R1.length
              · obtain ⟨z, hz⟩ : ∃ z, R1[j]? = some z := ⟨_, List.getElem?_eq_getElem hj2⟩
                have z0 : wr.cell? ⟨g1, j, none⟩ = some (.int .i64 z) := owns_cell HO.out (ints_at hz)
                have hmem : y ∈ R1.take (j + 1) ↔ y ∈ R1.take j ∨ z = y := by
                  rw [take_one hz, List.mem_append, List.mem_singleton]
                  exact ⟨fun h => h.imp id Eq.symm, fun h => h.imp id Eq.symm⟩
                have HMm := Lib.hid hmem
                clear hmem hz
                obtain ⟨d, hd⟩ : ∃ d, decide (y ∈ R1.take j) = d := ⟨_, rfl⟩
                have HDd2 := Lib.hid hd
                rw [hd]
                clear hd
                cases d with
                | true =>
                  have HR := Lib.hid (show decide (y ∈ R1.take (j + 1)) = true from decide_eq_true (HMm.out.2 (.inl (of_decide_eq_true HDd2.out))))
                  go_wp2_with fail
                  go_round
                  case rel => exact ⟨j + 1, by omega, by go_num, by rw [HR.out], rfl⟩
                  case measure => simp [intOf]; omega
                | false =>
                  by_cases hzy : z = y
                  · have ez : (z == y) = true := by simp [hzy]
                    have HR := Lib.hid (show decide (y ∈ R1.take (j + 1)) = true from decide_eq_true (HMm.out.2 (.inr hzy)))
                    clear hzy
                    go_wp2_with fail
                    go_round
                    case rel => exact ⟨j + 1, by omega, by go_num, by rw [HR.out], rfl⟩
                    case measure => simp [intOf]; omega
                  · have ez : (z == y) = false := by simp [hzy]
                    have HR := Lib.hid (show decide (y ∈ R1.take (j + 1)) = false from decide_eq_false fun h => (HMm.out.1 h).elim (of_decide_eq_false HDd2.out) hzy)
                    clear hzy
                    go_wp2_with fail
                    go_round
                    case rel => exact ⟨j + 1, by omega, by go_num, by rw [HR.out], rfl⟩
                    case measure => simp [intOf]; omega
              · obtain rfl : j = R1.length := by omega
                obtain ⟨d, hd⟩ : ∃ d, decide (y ∈ R1.take R1.length) = d := ⟨_, rfl⟩
                have HDd2 := Lib.hid hd
                rw [hd]
                clear hd
                rw [List.take_length] at HDd2
                cases d with
                | true =>
                  have HAn := Lib.hid (HAm.out.in_ HEn.out (by rw [HY.out]; exact of_decide_eq_true HDd2.out))
                  go_wp2_with fail
                  go_round
                  case rel => exact ⟨R1, q + 1, by omega, by go_num, hpre, hle, HAn, HO, HB, HKx⟩
                  case measure => simp [intOf]; omega
                | false =>
                  have HAn := Lib.hid (HAm.out.out_ HG.out.ri HEn.out (by rw [HY.out]; exact of_decide_eq_false HDd2.out))
                  rw [HY.out] at HAn
                  obtain ⟨it, hit, ht0, ht1, ht2⟩ := info_int
                  have HOc := Lib.hid (HO.out.alloc (.cells #[.int .i64 y] 3))
                  have HBc := Lib.hid (HB.out.alloc HB.out.size (.cells #[.int .i64 y] 3))
                  have HKc := Lib.hid (HKx.out.trans (Kx.of_below (show Below wr.heap.size wr (wr.alloc (.cells #[.int .i64 y] 3)) from (Below.refl _ _).alloc (Nat.le_refl _) _)))
                  have HSc := Lib.hid HBc.out.size
                  go_wp2_with (at_builtin; go_loud (refine wpList_append_lies _ rfl (.tmp 105) (.tmp 107) 28 rfl w5.heap.size 3 it (.int .i64 0) 1 8 Tryz.underlying28 hit ht0 ht1 ht2 rfl (by decide) _ _ _ rfl HOc.out ⟨wr.heap.size, 0, none⟩ 1 1 [.int .i64 y] rfl rfl (World.news_of_block (heap_alloc_new _ _)) (by intro u hu; simp at hu; subst hu; rfl) (by decide) (by unfold maxLen; omega) (by omega) HSc.out _ rfl ?_; intro g5 cap5 w11 hown hgrow hat hlt5; have HOn := Lib.hid hown; have HBn2 := Lib.hid (HBc.out.grown hgrow HBc.out.size (fun k e => (HOc.out.lt k e).1)); have HKn := Lib.hid (HKc.out.trans (Kx.of_grown HOc.out hgrow)); clear hown hgrow hat hlt5))
                  go_round
                  case rel => exact ⟨R1 ++ [y], q + 1, by omega, by go_num, by rw [List.take_append_of_le_length hle]; exact hpre, by rw [List.length_append]; omega, HAn, Lib.hid (by rw [List.length_append, show V.ints (R1 ++ [y]) = V.ints R1 ++ [.int .i64 y] from by unfold V.ints; rw [List.map_append]; rfl]; exact HOn.out), HBn2, HKn⟩
                  case measure => simp [intOf]; omega
          · obtain rfl : q = (V.listL M (i : Int)).length := by omega
            have HGn := Lib.hid (HAm.out.next HDf.out (by rw [HBe.out]; omega))
            have HSk := Lib.hid (show sumB (blkI M) (R1.take (k + 1)) = S + b from by
              rw [← HSn.out, ← hpre, List.take_take, Nat.min_eq_left (by omega)])
            go_wp2_with fail
            go_round
            case rel => exact ⟨R1, k + 1, by omega, by rw [HSk.out], by go_num, HGn, HO, HB⟩
            case measure => simp [intOf]; omega
      · obtain rfl : k = R.length := by omega
        have HAl := Lib.hid HGt.out.all
        have HSs := Lib.hid (show sumB (blkI M) (R.take R.length) = sumB (blkI M) R from by rw [List.take_length])
        have HW := Lib.hid (whole_is HAl.out HG.out (by omega) HBk.out HGt.out.small (by omega) ⟨#[47]⟩ ⟨#[97, 103, 97, 105, 110]⟩ ⟨#[47]⟩)
        have HB1 := Lib.hid (HBr.out.alloc HBr.out.size (.cells #[.int .i64 0, .string ⟨#[47]⟩, .int .i64 0, .string ⟨#[97, 103, 97, 105, 110]⟩] 52))
        have HX1 := Lib.hid (heap_alloc_new wr (.cells #[.int .i64 0, .string ⟨#[47]⟩, .int .i64 0, .string ⟨#[97, 103, 97, 105, 110]⟩] 52))
        have HS1 := Lib.hid (sum_any 0 0 (some ⟨wr.heap.size, 0, none⟩) 2 [(0, ⟨#[47]⟩), (0, ⟨#[97, 103, 97, 105, 110]⟩)] ⟨false, 0, false, 512⟩ (HF5.out.keep HB1.out) (HT5.out.keep HB1.out) HG.out HDv.out HBk.out
          (starts_row (L := [(0, ⟨#[47]⟩), (0, ⟨#[97, 103, 97, 105, 110]⟩)]) HX1.out)
          (by decide) (fun s hs => by
            simp only [List.mem_cons, List.not_mem_nil, or_false] at hs
            rcases hs with rfl | rfl <;> decide) ⟨by decide, by decide⟩)
        unfold P.credV howV at HS1
        clear HNd HLs HOv HDd HO HGt HAl
        go_wp2_with fail
        refine HS1.out.mono ?_
        rintro e w12 ⟨lv1, rfl, hb12⟩
        have HB2 := Lib.hid (below_two HB1.out hb12)
        clear hb12 HS1 HX1 HB1
        obtain ⟨hw1, hw2⟩ := HW.out
        obtain ⟨z, hz⟩ : ∃ z, unitsZ (cntZ true (blkI M) (allIds M 0 0 [(0, ⟨#[47]⟩)])) 512 = z := ⟨_, rfl⟩
        rw [hz] at hw2
        rw [show unitsZ (cntZ (How.mk false 0 false 512).each (blkI M) (allIds M 0 0 [(0, ⟨#[47]⟩), (0, ⟨#[97, 103, 97, 105, 110]⟩)])) (How.mk false 0 false 512).unit = sumB (blkI M) R from hw1]
        have HB3 := Lib.hid (HB2.out.alloc HB2.out.size (.cells #[.int .i64 0, .string ⟨#[47]⟩] 52))
        have HX3 := Lib.hid (heap_alloc_new w12 (.cells #[.int .i64 0, .string ⟨#[47]⟩] 52))
        have HS2 := Lib.hid (sum_any 0 0 (some ⟨w12.heap.size, 0, none⟩) 1 [(0, ⟨#[47]⟩)] ⟨false, 0, true, 512⟩ (HF5.out.keep HB3.out) (HT5.out.keep HB3.out) HG.out HDv.out HBk.out
          (starts_row (L := [(0, ⟨#[47]⟩)]) HX3.out) (by decide) (fun s hs => by
            obtain rfl := List.mem_singleton.1 hs
            decide) ⟨by decide, by decide⟩)
        unfold P.credV howV at HS2
        have HZ := Lib.hid (show unitsZ (cntZ (How.mk false 0 true 512).each (blkI M) (allIds M 0 0 [(0, ⟨#[47]⟩)])) (How.mk false 0 true 512).unit = z from hz)
        clear hz hw1 HW HSs
        generalize sumB (blkI M) R = s at hw2 ⊢
        have HZs := Lib.hid hw2
        clear hw2
        go_wp2_with fail
        refine HS2.out.mono ?_
        rintro e w13 ⟨lv2, rfl, hb13⟩
        have HB4 := Lib.hid (below_two HB5.out (below_two HB3.out hb13))
        rw [HZ.out]
        clear hb13 HS2 HX3 HB3 HZ
        have e1 : (s == s) = true := by simp
        have e2 : decide (z ≥ s) = true := decide_eq_true HZs.out
        go_wp2_with fail
        go_ret
        exact ⟨by simp, HB4.out⟩
end Go.Proofs.YtpikndeefiediaaGreatDoor.U

namespace Go.Proofs.YtpikndeefiediaaGreatDoor.usageWhole
open Go.Proofs.YtpikndeefiediaaGreatDoor.G Go.Proofs.YtpikndeefiediaaGreatDoor.U
open Go.ChangeShapes Go.WideShapes Go.ChangeAt Go.RowKit
open Go.ChangeMaps (open_string shut_string)

set_option maxRecDepth 100000 in
theorem contract (H : Type) (enc : TypeId × Value → H) (W : World) (base : Nat) (args : Array Value) (ds gs : List (DataW H)) (before : List MemPlace)
    (hval : ∀ (j : Nat) t v, Tryz.f3.params[j]? = some t → args[j]? = some v → Value.okWide Tryz.prog W .any base t v)
    (hW : DataW.Whole enc Tryz.prog Tryz.f3.params.toList Rows.usageWholeSpec.vars false W args.toList ds gs before) (hL : laidMetH Tryz.prog Rows.usageWholeRow.laid W) :
    Calls Tryz.prog 3 args W fun e W' => ∃ v, e = .returned v ∧ Rows.usageWholeSpec.post enc Tryz.prog Tryz.f3 false true false false W args v W' := by
  have hW' := hW
  obtain ⟨p, q, hA0, hV, rfl, hfz, hnd⟩ := hW
  have hA : DataW.TrodAll enc Tryz.prog W 0 (fun _ => true) true Tryz.f3.params.toList args.toList ds p := hA0
  rw [Tryz.params3] at hA hval
  obtain ⟨v0, vs0, d0, ds0, p0, q0, hargs, rfl, rfl, h0, r0⟩ := trodAll_cons hA
  obtain ⟨rfl, rfl, rfl⟩ := trodAll_nil r0
  obtain rfl : args = #[v0] := by cases args; simp_all
  obtain ⟨rfl, rfl⟩ := trodVars_none hV
  obtain ⟨a0, len0, cap0, rfl⟩ := okWide_slice Tryz.underlying22 (hval 0 22 v0 rfl rfl)
  have k0 := h0
  have lt0 : ∀ x ∈ p0, x.block < W.heap.size := by obtain ⟨m, hm⟩ := k0; exact DataW.trod_lt m _ _ _ hm
  obtain ⟨l0, rfl, x0, z0, m0⟩ := V.changes_of h0
  rw [MakeChecks.laidMetH_plain _ _ _ (by kernel_rfl)] at hL
  have ht : P.Tab W := tab_of hL
  clear hA0
  refine (whole_any l0 a0 cap0 W x0 ht m0 (fun c hc => ⟨⟨(z0 c hc).name, (z0 c hc).text⟩, (z0 c hc).lo, (z0 c hc).hi⟩)).mono fun e W' ⟨he, bel⟩ => ?_
  subst he
  exact ⟨_, rfl, _, _, _, [], _, [], hW', trodAll_mk1 (shut_bool Tryz.underlying4 _), (trodAll_cons_mk (Below.trod laidOut (by kernel_rfl) (of_decide_eq_true (by kernel_rfl)) k0 bel lt0) trodAll_mk0), rfl, bel.frame _, fun h => by cases h⟩

theorem laid_met (os : Os) : laidMetH Tryz.prog Rows.usageWholeRow.laid ((World.laidAll Tryz.prog os Rows.usageWholeRow.laid).forCall (fun _ _ => 0) ⟨#[], #[.slice none 0 0], []⟩).memory := by
  rw [MakeChecks.laidMetH_plain _ _ _ (by kernel_rfl)]
  exact laidMet_laidAll _ (by kernel_rfl) (by kernel_rfl)

theorem reads (os : Os) {H : Type} (enc : TypeId × Value → H) : ∃ places, DataW.whole enc Tryz.prog ((World.laidAll Tryz.prog os Rows.usageWholeRow.laid).forCall (fun _ _ => 0) ⟨#[], #[.slice none 0 0], []⟩).memory Tryz.f3.params.toList Rows.usageWholeSpec.vars false #[Value.slice none 0 0].toList 8 = some ([.nil], [], places) :=
  ⟨[], by kernel_rfl⟩

set_option maxRecDepth 100000 in
theorem lifted (os : Os) (started : os.Started) (H : Type) (enc : TypeId × Value → H) (F : Stop.Interp) :
    ReturnsInHanded {} Tryz.checked os 3 .any ((OpenSpec.ofChange Rows.usageWholeSpec).preRow enc Tryz.prog Tryz.f3 Rows.usageWholeRow.domain false Rows.usageWholeRow.laid) (((OpenSpec.ofChange Rows.usageWholeSpec).at F).post enc Tryz.prog Tryz.f3 false true false false) := by
  obtain ⟨places, hx⟩ := reads os enc
  refine returnsInHanded_of_row (C := Tryz.checked) (s := OpenSpec.ofChange Rows.usageWholeSpec) own started (by kernel_rfl) Tryz.func3
    (witness_row_atRef (enc := enc) (C := Tryz.checked) false (World.laidAll Tryz.prog os Rows.usageWholeRow.laid) #[.slice none 0 0] (World.laidAll_os _ _ _) (by kernel_rfl) (by kernel_rfl) (by kernel_rfl)
      (OpenSpec.preRow_of_cond 8 hx (by kernel_rfl) (fun k hk => by cases hk) (by kernel_rfl) (laid_met os))) ?_
  intro W base args ds gs before hval hW _ _ _ hL _ _
  exact contract H enc W base args ds gs before hval hW hL

theorem said : Rows.UsageWholeSaid :=
  OpenClaim.holds_of_cond 3 Tryz.f3 rfl rfl rfl rfl rfl rfl rfl ⟨rfl, rfl, rfl, rfl, rfl⟩ rfl rfl rfl rfl rfl (by kernel_rfl) Tryz.func3 (by kernel_rfl)
    (of_decide_eq_true (by kernel_rfl)) (by unfold Func.isWrapper; first | (rw [if_pos (by decide +kernel)]; kernel_rfl) | (rw [if_neg (by decide +kernel)]; exact ⟨rfl, rfl⟩))
    (fun os started H enc _ F => by rw [OpenClaim.pre_eq_preRow]; exact lifted os started H enc F)

theorem plain (f : FuncId) (fn : Func) (hf : Tryz.pinned.checked.prog.funcNamed "domesday/domesdaylaw14.UsageWhole" = some f) (hfn : Tryz.pinned.checked.prog.funcs[f]? = some fn) :
    false = Tryz.pinned.checked.prog.looks [] ∧ ∀ (j : Nat) t, fn.params[j]? = some t → Tryz.pinned.checked.prog.wantsStandIn t = false := by
  obtain rfl : f = 3 := Option.some.inj ((show Tryz.prog.funcNamed "domesday/domesdaylaw14.UsageWhole" = some 3 by kernel_rfl).symm.trans hf) |>.symm
  obtain rfl : fn = Tryz.f3 := (Option.some.inj (Tryz.func3.symm.trans hfn)).symm
  refine ⟨by kernel_rfl, fun j t ht => ?_⟩
  rw [Tryz.params3] at ht
  have : t = 22 := by simpa using Array.mem_of_getElem? ht
  obtain rfl := this
  · exact (show Tryz.prog.wantsStandIn 22 = false by kernel_rfl)

/-- The card. -/
theorem card : Rows.UsageWholeCardSaid :=
  Claim7.holds_tied_plain_at .later [] _ _ _ _ said (fun _ h => by cases h) (by kernel_rfl) (fun _ h => by cases h) usageWhole_row_tie rfl ⟨rfl, rfl⟩ (by kernel_rfl) rfl plain (by kernel_rfl)
end Go.Proofs.YtpikndeefiediaaGreatDoor.usageWhole
