/-
  What the program's rows are: names in columns, row by row. Conditions: at most 1000 names of at most 4000 bytes, in memory; the package's table lies as its text lays it.
-/
import Derived.Test.YtemnbleacjpfcaaDoorLTake
import Derived.Test.YtemnbleacjpfcaaDoorBld
import Derived.Test.YtemnbleacjpfcaaDoorPads
import Derived.StillTailTactics
set_option linter.unusedVariables false
namespace Go.Proofs.YtemnbleacjpfcaaDoor.L
open Go.Proofs.YtemnbleacjpfcaaDoor.W hiding ret_int below_two
open Go.Proofs.YtemnbleacjpfcaaDoor.N hiding ret_int
open Go.Proofs.YtemnbleacjpfcaaDoor.B
open Go.RowKit

theorem drawn_one (w : World) : Below w.heap.size w w.drew := Below.drew (Below.refl _ _)
theorem others_below {e : TypeId} {b : Option Nat} {w w' : World} (h : Below w.heap.size w w') : Lib.OthersKept e b w w' := fun k o hk _ _ => (h.block k (heap_lt hk)).trans hk
theorem others_row {e e2 : TypeId} {g : Nat} {W W' : World} {base : Nat} {v : Value} {n : Nat} {xs : List Value} (h : W.ownsRow base e2 1 v n xs) (hk : Lib.OthersKept e (some g) W W') (he : e2 ≠ e) (hg : v.ownBlock ≠ some g) : W'.ownsRow base e2 1 v n xs :=
  owns_at h fun k hkk => by
    obtain ⟨cur, hcur⟩ := owns_type h hkk
    rw [hcur]
    exact hk k _ hcur (fun z => hg (hkk.trans z)) (fun c fz z => by
      simp only [Obj.cells.injEq] at z
      exact he z.2.1)
theorem row_apart {W : World} {base g n : Nat} {t : Nat → ByteArray} {V : Nat → Value} {B : Nat} {e : TypeId} {v : Value} {m : Nat} {xs : List Value} (h : W.ownsRow base e 1 v m xs) (hb : Blds B g n t V W) (he : e ≠ 42) : v.ownBlock ≠ some g := fun z => by
  obtain ⟨cur, hcur⟩ := owns_type h z
  obtain ⟨cs, h1, _⟩ := hb.blk
  rw [h1] at hcur
  simp only [Option.some.injEq, Obj.cells.injEq] at hcur
  exact he hcur.2.1.symm
theorem upd_self {α : Type} (f : Nat → α) (i : Nat) : upd f i (f i) = f := funext fun j => by
  by_cases h : j = i
  · rw [h, upd_here]
  · rw [upd_else h]
theorem app_none (a : ByteArray) : a ++ blankL 0 = a := ByteArray.ext (Array.toList_inj.1 (by rw [dapp]; exact List.append_nil _))

/-! ### blanks -/
theorem left_blanks (n : Nat) (w : World) (h : n ≤ 10000) : Calls Tryd.prog 39 #[.string ⟨#[]⟩, .int .i64 0, .int .i64 (n : Int)] w fun e w' => e = .returned (.string (blankL n)) ∧ Below w.heap.size w w' := by
  refine (left_any ⟨#[]⟩ 0 (n : Int) w (by decide)).mono ?_
  rintro e w' ⟨rfl, hb⟩
  refine ⟨?_, hb⟩
  have e1 : lackN 0 (n : Int) = n := by unfold lackN clampZ; omega
  rw [e1]
  exact congrArg (fun x => Ending.returned (.string x)) (nil_app (blankL n))
def BSt (B g n : Nat) (t : Nat → ByteArray) (w wr : World) : Prop := (∃ V, Blds B g n t V wr) ∧ Below B w wr ∧ Lib.OthersKept 5 (some g) w wr
theorem BSt.below {B g n : Nat} {t : Nat → ByteArray} {w wr w2 : World} (h : BSt B g n t w wr) (hb : Below wr.heap.size wr w2) : BSt B g n t w w2 := by
  obtain ⟨⟨V, h1⟩, h2, h3⟩ := h
  exact ⟨⟨V, h1.keep hb⟩, h2.trans (hb.mono (Nat.le_trans h1.lo (Nat.le_of_lt h1.lt))), h3.trans (others_below hb)⟩
theorem BSt.next {B g n : Nat} {t t' : Nat → ByteArray} {w wr w2 : World} (h : BSt B g n t w wr) (hv : ∃ V', Blds B g n t' V' w2) (hb : Below B wr w2) (hk : Lib.OthersKept 5 (some g) wr w2) : BSt B g n t' w w2 := ⟨hv, h.2.1.trans hb, h.2.2.trans hk⟩
set_option maxHeartbeats 4000000 in
theorem blanks_at {B g n : Nat} {t : Nat → ByteArray} {V : Nat → Value} {w : World} (h : Blds B g n t V w) {i o : Nat} (hi : i < n) (ho : o = 2 * i) (k : Nat) (hk : k ≤ 10000) (hz : (t i).size ≤ 900000000) :
    Calls Tryd.prog 33 #[.pointer (some ⟨g, o, none⟩), .int .i64 (k : Int)] w fun e w' => e = .returned (.tuple #[]) ∧ BSt B g n (upd t i (t i ++ blankL k)) w w' := by
  by_cases h0 : k = 0
  · have HH := Lib.hid (show BSt B g n (upd t i (t i ++ blankL k)) w w from by rw [h0, app_none, upd_self]; exact ⟨⟨V, h⟩, Below.refl _ _, Lib.OthersKept.refl _ _ _⟩)
    subst h0
    clear h
    go_enter Tryd.func33, Tryd.ntmps33
    go_wp2
    refine wp_loop_rounds 1 ?_; rw [rounds_succ]
    go_wp2
    go_end0
    exact ⟨rfl, HH.out⟩
  · have HL := Lib.hid (left_blanks k w hk)
    have HV := Lib.hid h
    have HO := Lib.hid ho
    have hbs := blankL_size k
    clear h ho
    have e1 : decide ((0 : Int) < (k : Int)) = true := decide_eq_true (by omega)
    go_enter Tryd.func33, Tryd.ntmps33
    go_wp2
    refine wp_loop_rounds 2 ?_; rw [rounds_succ]
    go_wp2_with fail
    refine HL.out.mono ?_
    rintro e w2 ⟨rfl, hb⟩
    have HB := Lib.hid hb
    clear hb
    go_wp2_with fail
    refine (write_any (HV.out.keep HB.out) hi HO.out (blankL k) (by omega)).mono ?_
    rintro e w3 ⟨⟨v, rfl⟩, hv, hb3, hk3⟩
    have HE := Lib.hid (show BSt B g n (upd t i (t i ++ blankL k)) w w3 from ⟨hv, (HB.out.mono (Nat.le_trans HV.out.lo (Nat.le_of_lt HV.out.lt))).trans hb3, (others_below HB.out).trans hk3⟩)
    clear hv hb3 hk3
    go_wp2_with fail
    rw [rounds_succ]
    go_wp2_with fail
    go_end0
    exact ⟨rfl, HE.out⟩

/-! ### sizes -/
theorem join_size {a b : Nat} : ∀ es : List Ent, (∀ x ∈ es, x.1.size ≤ a ∧ x.2 ≤ b) → (joinT es).size ≤ (a + b) * es.length
  | [], _ => Nat.zero_le _
  | [x], h => by
    have := (h x List.mem_cons_self).1
    show x.1.size ≤ (a + b) * 1
    omega
  | x :: y :: r, h => by
    have h1 := h x List.mem_cons_self
    have h2 := join_size (y :: r) fun z hz => h z (List.mem_cons_of_mem _ hz)
    show (x.1 ++ (blankL x.2 ++ joinT (y :: r))).size ≤ (a + b) * ((y :: r).length + 1)
    rw [app_size, app_size, blankL_size, Nat.mul_succ]
    omega
theorem lastG_le {b : Nat} : ∀ es : List Ent, (∀ x ∈ es, x.2 ≤ b) → lastG es ≤ b
  | [], _ => Nat.zero_le _
  | [x], h => h x List.mem_cons_self
  | x :: y :: r, h => lastG_le (y :: r) fun z hz => h z (List.mem_cons_of_mem _ hz)
theorem entsK_bd {l : List ByteArray} {cols : Nat} {across : Bool} {k r : Nat} (hk : k ≤ l.length) (hz : ∀ x ∈ l, x.size ≤ 4000) : (∀ x ∈ entsK l cols across k r, x.1.size ≤ 4000 ∧ x.2 ≤ 8002) ∧ (entsK l cols across k r).length ≤ k := by
  refine ⟨fun x hx => ?_, ?_⟩
  · obtain ⟨i, hi, rfl⟩ := List.mem_map.1 hx
    have h1 := (idx_mem hi).1
    have h2 := hz _ (atL_mem (show i < l.length by omega))
    have h3 : wideL (colF l (colOf l.length cols across) l.length (colOf l.length cols across i)) ≤ 2 * ((4000 : Nat) : Int) := wideL_small fun y hy => hz y (colF_mem (Nat.le_refl _) hy)
    have h4 := (wd_bd (atL l i) 0).1
    refine ⟨h2, ?_⟩
    show gapN _ _ ≤ _
    unfold gapN
    omega
  · unfold entsK
    rw [List.length_map]
    unfold idxF
    have := List.length_filter_le (fun i => rowOf l.length cols across i == r) (List.range k)
    rwa [List.length_range] at this
theorem joinK_size {l : List ByteArray} {cols : Nat} {across : Bool} {k r : Nat} (hk : k ≤ l.length) (hl : l.length ≤ 1000) (hz : ∀ x ∈ l, x.size ≤ 4000) : (joinT (entsK l cols across k r)).size ≤ 200000000 ∧ lastG (entsK l cols across k r) ≤ 8002 := by
  obtain ⟨h1, h2⟩ := entsK_bd (cols := cols) (across := across) (r := r) hk hz
  have h3 := join_size (a := 4000) (b := 8002) _ h1
  exact ⟨by omega, lastG_le _ fun x hx => (h1 x hx).2⟩

/-! ### what lies in memory while the rows are written -/
def rowsT (l : List ByteArray) (cols : Nat) (across : Bool) (k : Nat) : Nat → ByteArray := fun r => joinT (entsK l cols across k r)
def lacksT (l : List ByteArray) (cols : Nat) (across : Bool) (rows k : Nat) : List Int := (List.range rows).map fun r => (lastG (entsK l cols across k r) : Int)
theorem lacks_at {l : List ByteArray} {cols : Nat} {across : Bool} {rows k r : Nat} (h : r < rows) : (lacksT l cols across rows k)[r]? = some (lastG (entsK l cols across k r) : Int) := by
  unfold lacksT
  rw [List.getElem?_map, List.getElem?_range h]
  rfl
theorem lacks_len (l : List ByteArray) (cols : Nat) (across : Bool) (rows k : Nat) : (lacksT l cols across rows k).length = rows := by unfold lacksT; rw [List.length_map, List.length_range]
theorem lacks_zero (l : List ByteArray) (cols : Nat) (across : Bool) (rows : Nat) : lacksT l cols across rows 0 = List.replicate rows 0 := by
  apply List.ext_getElem?
  intro r
  by_cases h : r < rows
  · rw [lacks_at h, List.getElem?_replicate, if_pos h]; rfl
  · rw [List.getElem?_eq_none (by rw [lacks_len]; omega), List.getElem?_eq_none (by rw [List.length_replicate]; omega)]
theorem lacks_step {l : List ByteArray} {cols : Nat} {across : Bool} {rows k : Nat} (hr : rowOf l.length cols across k < rows) {z : Int} (hz : z = (gapN (colF l (colOf l.length cols across) l.length (colOf l.length cols across k)) (atL l k) : Int)) : (lacksT l cols across rows k).set (rowOf l.length cols across k) z = lacksT l cols across rows (k + 1) := by
  apply List.ext_getElem?
  intro r
  by_cases h : r < rows
  · rw [lacks_at h]
    by_cases q : rowOf l.length cols across k = r
    · subst q
      rw [List.getElem?_set_self (by rw [lacks_len]; exact h), entsK_here, lastG_snoc, hz]
    · rw [List.getElem?_set_ne q, lacks_at h, entsK_else _ _ _ _ _ q]
  · rw [List.getElem?_eq_none (by rw [List.length_set, lacks_len]; omega), List.getElem?_eq_none (by rw [lacks_len]; omega)]
theorem rows_step (l : List ByteArray) (cols : Nat) (across : Bool) (k : Nat) : upd (upd (rowsT l cols across k) (rowOf l.length cols across k) (rowsT l cols across k (rowOf l.length cols across k) ++ blankL (lastG (entsK l cols across k (rowOf l.length cols across k))))) (rowOf l.length cols across k) ((upd (rowsT l cols across k) (rowOf l.length cols across k) (rowsT l cols across k (rowOf l.length cols across k) ++ blankL (lastG (entsK l cols across k (rowOf l.length cols across k)))) (rowOf l.length cols across k)) ++ atL l k) = rowsT l cols across (k + 1) := funext fun r => by
  by_cases q : r = rowOf l.length cols across k
  · subst q
    rw [upd_here, upd_here]
    unfold rowsT
    rw [entsK_here, join_snoc, bytes_assoc]
  · rw [upd_else q, upd_else q]
    unfold rowsT
    rw [entsK_else _ _ _ _ _ (Ne.symm q)]
structure LMem (l : List ByteArray) (cols rows : Nat) (across : Bool) (gW gC gL gB : Nat) (T : Nat → ByteArray) (K : List Int) (w W : World) : Prop where
  bel : Below w.heap.size w W
  wid : W.ownsRow w.heap.size 3 1 (ownS gW l.length) l.length (ints (wds l))
  col : W.ownsRow w.heap.size 3 1 (ownS gC cols) cols (ints ((colsL l cols across).map wideL))
  lac : W.ownsRow w.heap.size 3 1 (ownS gL rows) rows (ints K)
  bld : ∃ V, Blds w.heap.size gB rows T V W
theorem LMem.keep {l : List ByteArray} {cols rows : Nat} {across : Bool} {gW gC gL gB : Nat} {T : Nat → ByteArray} {K : List Int} {w W W' : World} (h : LMem l cols rows across gW gC gL gB T K w W) (hb : Below W.heap.size W W') : LMem l cols rows across gW gC gL gB T K w W' :=
  ⟨below_two h.bel hb, owns_to h.wid hb, owns_to h.col hb, owns_to h.lac hb, h.bld.elim fun V q => ⟨V, q.keep hb⟩⟩
theorem LMem.wrote {l : List ByteArray} {cols rows : Nat} {across : Bool} {gW gC gL gB : Nat} {T T' : Nat → ByteArray} {K : List Int} {w W W' : World} (h : LMem l cols rows across gW gC gL gB T K w W) (hv : ∃ V', Blds w.heap.size gB rows T' V' W') (hb : Below w.heap.size W W') (hk : Lib.OthersKept 5 (some gB) W W') : LMem l cols rows across gW gC gL gB T' K w W' := by
  obtain ⟨V, q⟩ := h.bld
  exact ⟨h.bel.trans hb, others_row h.wid hk (by decide) (row_apart h.wid q (by decide)), others_row h.col hk (by decide) (row_apart h.col q (by decide)), others_row h.lac hk (by decide) (row_apart h.lac q (by decide)), hv⟩
theorem owns_far {w : World} {base : Nat} {e : TypeId} {size n : Nat} {v : Value} {xs : List Value} (h : w.ownsRow base e size v n xs) {p : Addr} (hp : v.ownBlock ≠ some p.block) (u : Value) : (w.setCell p u).ownsRow base e size v n xs :=
  owns_at h fun k hk => heap_setCell_other _ _ _ _ (fun z => hp (hk.trans (by rw [z])))
theorem LMem.lack {l : List ByteArray} {cols rows : Nat} {across : Bool} {gW gC gL gB : Nat} {T : Nat → ByteArray} {K : List Int} {w W : World} (h : LMem l cols rows across gW gC gL gB T K w W) (h1 : gW ≠ gL) (h2 : gC ≠ gL) {r : Nat} (hr : r < K.length) (z : Int) : LMem l cols rows across gW gC gL gB T (K.set r z) w (W.setCell ⟨gL, r, none⟩ (.int .i64 z)) := by
  obtain ⟨V, q⟩ := h.bld
  have hlo := own_base h.lac
  refine ⟨h.bel.setCell (p := ⟨gL, r, none⟩) hlo.1 _, owns_far h.wid (p := ⟨gL, r, none⟩) (fun z => h1 (Option.some.inj z)) _, owns_far h.col (p := ⟨gL, r, none⟩) (fun z => h2 (Option.some.inj z)) _, own_step h.lac (Below.refl _ _) hr z, V, ?_⟩
  have hn : gL ≠ gB := fun z => row_apart h.lac q (by decide) (by rw [← z]; rfl)
  refine q.at_ (heap_setCell_other _ _ _ _ hn.symm) fun i hi k hk => heap_setCell_other _ _ _ _ fun z => ?_
  obtain ⟨c, fz, hc⟩ := Lib.ownsRowF_kind (q.own i hi) k hk
  obtain ⟨cur, hcur⟩ := owns_type h.lac (k := gL) rfl
  rw [z, hcur] at hc
  simp only [Option.some.injEq, Obj.cells.injEq] at hc
  exact absurd hc.2.1 (by decide)
theorem bld_far {B g n : Nat} {t : Nat → ByteArray} {V : Nat → Value} {W : World} (h : Blds B g n t V W) {base gT m : Nat} {e : TypeId} {xs : List Value} (hr : W.ownsRow base e 1 (ownS gT m) m xs) (h1 : e ≠ 42) (h2 : e ≠ 5) (j : Nat) (u : Value) : Blds B g n t V (W.setCell ⟨gT, j, none⟩ u) := by
  have hn : gT ≠ g := fun z => row_apart hr h h1 (by rw [← z]; rfl)
  refine h.at_ (heap_setCell_other _ _ _ _ hn.symm) fun i hi k hk => heap_setCell_other _ _ _ _ fun z => ?_
  obtain ⟨c, fz, hc⟩ := Lib.ownsRowF_kind (h.own i hi) k hk
  obtain ⟨cur, hcur⟩ := owns_type hr (k := gT) rfl
  rw [z, hcur] at hc
  simp only [Option.some.injEq, Obj.cells.injEq] at hc
  exact absurd hc.2.1 h2
theorem infoBld : (Tryd.prog.info? 42).map (fun i => (i.zero, i.size, i.bytes)) = some (some (.agg #[.pointer none, .slice none 0 0]), 2, 32) := by kernel_rfl
theorem infoStr : (Tryd.prog.info? 9).map (fun i => (i.zero, i.size, i.bytes)) = some (some (.string ⟨#[]⟩), 1, 16) := by kernel_rfl
theorem Blds.made {B g n : Nat} {W : World} (h : W.ownsRow B 42 2 (ownS g n) n (madeCells (Value.agg #[.pointer none, .slice none 0 0]).cells (n * 2)).toList) : Blds B g n (fun _ => ByteArray.empty) (fun _ => .slice none 0 0) W := by
  have hz : (Value.agg #[.pointer none, .slice none 0 0]).cells = #[.pointer none, .slice none 0 0] := rfl
  rw [hz] at h
  rcases h.2 with ⟨h, _⟩ | ⟨g', cap', cur, hv, hb, hg, hnc, hcm, hcs, ht⟩
  · cases h
  · simp only [Value.slice.injEq, Option.some.injEq, Addr.mk.injEq] at hv
    obtain ⟨⟨rfl, _, _⟩, _, rfl⟩ := hv
    rw [List.take_of_length_le (by rw [Array.length_toList, hcs]; exact Nat.le_refl _)] at ht
    have hcur := Array.toList_inj.1 ht
    subst hcur
    refine ⟨hb, ⟨_, hg, by rw [hcs]; omega, fun i hi => ?_⟩, fun i hi => World.ownsRowF_nil _ _ _ _, fun _ _ _ => rfl, fun i j _ _ _ => .inl rfl⟩
    have e1 : (2 * i) % 2 = 0 := by omega
    have e2 : (2 * i + 1) % 2 = 1 := by omega
    refine ⟨.inl ?_, ?_⟩
    · unfold madeCells
      rw [Array.getElem?_map, Array.getElem?_range, if_pos (by omega)]
      simp [e1]
    · unfold madeCells
      rw [Array.getElem?_map, Array.getElem?_range, if_pos (by omega)]
      simp [e2]
theorem texts_made (n : Nat) : (madeCells (Value.string ⟨#[]⟩).cells (n * 1)).toList = strs (List.replicate n ByteArray.empty) := by
  have : (Value.string ⟨#[]⟩).cells = #[.string ⟨#[]⟩] := rfl
  rw [this, toList_madeCells_one, Nat.mul_one]
  unfold strs
  rw [List.map_replicate]
  rfl

/-! ### the rows -/
theorem owns_lower {w : World} {b b' : Nat} {e : TypeId} {size n : Nat} {v : Value} {xs : List Value} (h : w.ownsRow b e size v n xs) (hb : b' ≤ b) : w.ownsRow b' e size v n xs := by
  refine ⟨h.1, ?_⟩
  rcases h.2 with hn | ⟨g, cap, cur, hv, hg, rest⟩
  · exact .inl hn
  · exact .inr ⟨g, cap, cur, hv, Nat.le_trans hb hg, rest⟩
def LayRel (l : List ByteArray) (n cols rows : Nat) (across : Bool) (gW gC gL gB : Nat) (w : World) (v : Value) (wr : World) : Prop :=
  ∃ k : Nat, k ≤ n ∧ v = .int .i64 (k : Int) ∧ Hid (LMem l cols rows across gW gC gL gB (rowsT l cols across k) (lacksT l cols across rows k) w wr)
def tellK (L : List ByteArray) (k : Nat) : List ByteArray := L.take k ++ List.replicate (L.length - k) ByteArray.empty
theorem tellK_zero (L : List ByteArray) : tellK L 0 = List.replicate L.length ByteArray.empty := rfl
theorem tellK_end (L : List ByteArray) : tellK L L.length = L := by
  unfold tellK
  rw [Nat.sub_self, List.take_length]
  exact List.append_nil _
theorem tellK_step {L : List ByteArray} {k : Nat} (h : k < L.length) : (tellK L k).set k (atL L k) = tellK L (k + 1) := by
  unfold tellK
  obtain ⟨m, hm⟩ : ∃ m, L.length = k + 1 + m := ⟨L.length - (k + 1), by omega⟩
  rw [hm, show k + 1 + m - k = m + 1 by omega, show k + 1 + m - (k + 1) = m by omega, List.replicate_succ, List.set_append_right _ _ (by rw [List.length_take]; omega), List.length_take, Nat.min_eq_left (by omega), Nat.sub_self, List.set_cons_zero, List.take_add_one, List.getElem?_eq_getElem h, List.append_assoc]
  unfold atL
  rw [List.getD_eq_getElem?_getD, List.getElem?_eq_getElem h]
  rfl
theorem tellK_at {L : List ByteArray} {k : Nat} (h : k < L.length) : (tellK L k)[k]? = some ByteArray.empty := by
  unfold tellK
  rw [List.getElem?_append_right (by rw [List.length_take]; omega), List.length_take, Nat.min_eq_left (by omega), Nat.sub_self, List.getElem?_replicate, if_pos (by omega)]
theorem tellK_len {L : List ByteArray} {k : Nat} (h : k ≤ L.length) : (tellK L k).length = L.length := by
  unfold tellK
  rw [List.length_append, List.length_take, List.length_replicate]
  omega
theorem strs_at {L : List ByteArray} {k : Nat} {s : ByteArray} (h : L[k]? = some s) : (strs L)[k]? = some (.string s) := by
  unfold strs
  rw [List.getElem?_map, h]
  rfl
theorem strs_set (L : List ByteArray) (k : Nat) (s : ByteArray) : (strs L).set k (.string s) = strs (L.set k s) := by
  unfold strs
  rw [List.map_set]
theorem strs_len (L : List ByteArray) : (strs L).length = L.length := List.length_map _
def TellRel (L : List ByteArray) (rows gB gT : Nat) (T : Nat → ByteArray) (w : World) (v : Value) (wr : World) : Prop :=
  ∃ k : Nat, k ≤ rows ∧ v = .int .i64 (k : Int) ∧ Hid (wr.ownsRow w.heap.size 9 1 (ownS gT rows) rows (strs (tellK L k))) ∧ Hid (∃ V, Blds w.heap.size gB rows T V wr) ∧ Hid (Below w.heap.size w wr)
theorem prows_at {l : List ByteArray} {cols : Nat} {across : Bool} {r : Nat} (h : r < rowsN l.length cols) : atL (prowsL l cols across) r = rowsT l cols across l.length r := by
  unfold atL prowsL
  rw [List.getD_eq_getElem?_getD, List.getElem?_map, List.getElem?_range h]
  rfl
theorem prows_len (l : List ByteArray) (cols : Nat) (across : Bool) : (prowsL l cols across).length = rowsN l.length cols := by
  unfold prowsL
  rw [List.length_map, List.length_range]
theorem taken_bd (l : List ByteArray) (most : Int) (across : Bool) : takenN l most across ≤ l.length ∧ (0 < l.length → 0 < takenN l most across) := by
  unfold takenN
  obtain ⟨b1, b2, _⟩ := best_ok l most across l.length
  split <;> omega
theorem rows_none (cols : Nat) : rowsN 0 cols = 0 := by
  unfold rowsN
  cases cols with
  | zero => rfl
  | succ c => exact Nat.div_eq_of_lt (by omega)
theorem rowsN_bd {n cols : Nat} (h : 0 < n → 0 < cols) : rowsN n cols ≤ n := by
  by_cases hn : 0 < n
  · exact rowsN_le (h hn)
  · obtain rfl : n = 0 := by omega
    rw [rows_none]
    exact Nat.le_refl _
theorem prows_are {l : List ByteArray} {most : Int} {across : Bool} (hl : l.length ≤ 1000) (hz : ∀ x ∈ l, x.size ≤ 4000) : prowsL l (takenN l (boundZ most) across) across = lrows l most across := by
  by_cases h : 0 < l.length
  · have hb := best_bound (l := l) (most := most) (across := across) (fun k hk => by
      have := sum_small (l := l) (k := k) (j := 4000) (across := across) hz
      omega) l.length (Nat.le_refl _)
    rw [lrows_names h, ← hb]
    unfold takenN
    rw [if_neg (by omega)]
  · unfold prowsL lrows
    rw [if_pos (by omega), show l.length = 0 by omega, rows_none]
    rfl
set_option maxRecDepth 100000 in
set_option maxHeartbeats 1400000 in
theorem lay_any (l : List ByteArray) (a : Option Addr) (cap : Nat) (most : Int) (across : Bool) (w : World) (H : InL w a l) (hl : l.length ≤ 1000) (hz : ∀ x ∈ l, x.size ≤ 4000) (hm : most ≤ 9223372036854775807) (ht : Tab w) :
    Calls Tryd.prog 20 #[.slice a l.length cap, .int .i64 most, .bool across] w fun e w' => ∃ g m, e = .returned (ownS g m) ∧ m = (lrows l most across).length ∧ w'.ownsRow w.heap.size 9 1 (ownS g m) m (strs (lrows l most across)) ∧ Below w.heap.size w w' := by
  have hz6 : ∀ x ∈ l, x.size ≤ 60000 := fun x hx => Nat.le_trans (hz x hx) (by decide)
  obtain ⟨i0, hi0, hz0, hz1, hz2⟩ := info_parts infoInt
  obtain ⟨ib, hib, hb0, hb1, hb2⟩ := info_parts infoBld
  obtain ⟨is, his, hs0, hs1, hs2⟩ := info_parts infoStr
  have HW1 := Lib.hid (widths_any l a cap w H hl hz6 ht)
  have HX := Lib.hid H
  have HZ := Lib.hid hz
  have HP := Lib.hid (prows_are (most := most) (across := across) hl hz)
  have hbz : boundZ most ≤ 9223372036854775807 := by unfold boundZ; split <;> omega
  have hb0z := boundZ_pos most
  obtain ⟨htb, htb2⟩ := taken_bd l (boundZ most) across
  have HTk := Lib.hid (fun (g base : Nat) (W : World) (hX : W.ownsRow base 3 1 (ownS g l.length) l.length (ints (wds l))) => taken_any l (boundZ most) across g base W hX hl hz6 hb0z hbz)
  have HCs := Lib.hid (fun (g base : Nat) (W : World) (hX : W.ownsRow base 3 1 (ownS g l.length) l.length (ints (wds l))) cols hc hm => colWidths_any l cols across g base W hX hl hz6 hc hm)
  clear H hz hz6 ht
  obtain ⟨n, hn⟩ : ∃ n, l.length = n := ⟨_, rfl⟩
  have HN := Lib.hid hn
  rw [hn] at hl HW1 HTk HCs htb htb2 ⊢
  clear hn
  obtain ⟨cols, hcols⟩ : ∃ c, takenN l (boundZ most) across = c := ⟨_, rfl⟩
  rw [hcols] at HTk HP htb htb2
  clear hcols
  have hrb := rowsN_bd htb2
  have HPl := Lib.hid (prows_len l cols across)
  rw [HN.out] at HPl
  have HPa := Lib.hid (fun r (h : r < rowsN l.length cols) => prows_at (l := l) (cols := cols) (across := across) h)
  rw [HN.out] at HPa
  rw [HP.out] at HPl HPa
  generalize lrows l most across = L at HPl HPa ⊢
  clear HP
  obtain ⟨rows, hrows⟩ : ∃ r, rowsN n cols = r := ⟨_, rfl⟩
  have HR := Lib.hid hrows
  rw [hrows] at HTk hrb HPl HPa
  clear hrows
  have hback := back_at (rows : Int) (by omega)
  go_enter Tryd.func20, Tryd.ntmps20
  go_wp2_with fail
  refine HW1.out.mono ?_
  clear HW1
  rintro e w1 ⟨gW, rfl, ho1, hb1w⟩
  have HO1 := Lib.hid ho1
  have HB1 := Lib.hid hb1w
  clear ho1 hb1w
  go_wp2_with fail
  refine (bound_any most _).mono ?_
  rintro e w2 ⟨rfl, rfl⟩
  go_wp2_with fail
  refine (HTk.out gW w.heap.size w1 HO1.out).mono ?_
  clear HTk
  rintro e w2 ⟨rfl, hbt⟩
  have HB2 := Lib.hid (below_two HB1.out hbt)
  have HO2 := Lib.hid (owns_to HO1.out hbt)
  clear hbt HB1 HO1
  go_wp2_with fail
  have hcw := HCs.out gW w.heap.size w2 HO2.out cols htb2 htb
  rw [HR.out] at hcw
  refine hcw.mono ?_
  clear hcw HCs
  rintro e w3 ⟨gC, rfl, ho3, hb3⟩
  have HC3 := Lib.hid (owns_lower ho3 HB2.out.size)
  have HW3 := Lib.hid (owns_to HO2.out hb3)
  have HB3 := Lib.hid (below_two HB2.out hb3)
  clear ho3 hb3 HB2 HO2
  go_upto_region 5 with (at_make; go_loud (refine wpList_make_full _ rfl (.tmp 31) (.tmp 31) 55 rfl w.heap.size 42 ib (.agg #[.pointer none, .slice none 0 0]) 2 Tryd.underlying55 hib hb0 hb1 .i64 .i64 _ _ rows rfl rfl rfl rfl (by rw [hb2]; omega) (by unfold maxLen; omega) HB3.out.size ?_; intro w4 hown hgrow))
  have HL4 := Lib.hid (Blds.made hown)
  have hbel : Below w3.heap.size w3 w4 := (Below.refl _ _).grown hgrow (Nat.le_refl _) (fun j hj => by cases hj)
  have HC4 := Lib.hid (owns_to HC3.out hbel)
  have HW4 := Lib.hid (owns_to HW3.out hbel)
  have HB4 := Lib.hid (below_two HB3.out hbel)
  clear hown hgrow HC3 HW3 HB3 hbel
  generalize w3.heap.size = gB at *
  go_upto_region 6 with (at_make; go_loud (refine wpList_make_full _ rfl (.tmp 34) (.tmp 34) 49 rfl w.heap.size 3 i0 (.int .i64 0) 1 Tryd.underlying49 hi0 hz0 hz1 .i64 .i64 _ _ rows rfl rfl rfl rfl (by rw [hz2]; omega) (by unfold maxLen; omega) HB4.out.size ?_; intro w5 hown hgrow))
  rw [zeros_made] at hown
  have hbel : Below w4.heap.size w4 w5 := (Below.refl _ _).grown hgrow (Nat.le_refl _) (fun j hj => by cases hj)
  have HNe := Lib.hid (show gW ≠ w4.heap.size ∧ gC ≠ w4.heap.size from ⟨Nat.ne_of_lt (own_base HW4.out).2, Nat.ne_of_lt (own_base HC4.out).2⟩)
  have HM5 := Lib.hid (show LMem l cols rows across gW gC w4.heap.size gB (rowsT l cols across 0) (lacksT l cols across rows 0) w w5 from
    ⟨below_two HB4.out hbel, by rw [HN.out]; exact owns_to HW4.out hbel, owns_to HC4.out hbel, by rw [lacks_zero]; exact hown, _, HL4.out.keep hbel⟩)
  clear hown hgrow HC4 HW4 HB4 HL4 hbel
  generalize w4.heap.size = gL at *
  go_wp2_with fail
  go_loopw [38] (LayRel l n cols rows across gW gC gL gB w) (fun v _ => n - (intOf v).toNat)
  case atStart => exact ⟨0, Nat.zero_le _, rfl, HM5⟩
  case round =>
    clear HM5
    obtain ⟨k, hk, rfl, HM⟩ := hrel
    by_cases hi : k < n
    · have e1 : decide ((k : Int) < (n : Int)) = true := decide_eq_true (by omega)
      have hcp : 0 < cols := htb2 (by omega)
      have hkl : k < l.length := by rw [HN.out]; exact hi
      rcases HX.out.keep HM.out.bel with q | ⟨b, off, rfl, hcs⟩
      · omega
      have hcell := hcs k hkl
      clear hcs
      have hpl := place_at n cols k across wr hi hcp (by omega) htb
      rw [HR.out] at hpl
      have hlt : colOf n cols across k < cols := colOf_lt hi hcp
      have hrt : rowOf n cols across k < rows := by rw [← HR.out]; exact rowOf_lt hi hcp
      have HSt := Lib.hid (rows_step l cols across k)
      have HLs := Lib.hid (fun z hz => lacks_step (l := l) (cols := cols) (across := across) (rows := rows) (k := k) (by rw [HN.out]; exact hrt) (z := z) hz)
      have HLa := Lib.hid (lacks_at (l := l) (cols := cols) (across := across) (rows := rows) (k := k) (r := rowOf n cols across k) hrt)
      have hjk := joinK_size (l := l) (cols := cols) (across := across) (k := k) (r := rowOf n cols across k) (by omega) (by rw [HN.out]; exact hl) HZ.out
      have HTr := Lib.hid (show rowsT l cols across k (rowOf n cols across k) = joinT (entsK l cols across k (rowOf n cols across k)) from rfl)
      have HCa := Lib.hid (colW_at (l := l) (cols := cols) (across := across) (k := l.length) (c := colOf n cols across k) hlt)
      rw [colW_end] at HCa
      have hmem := wideL_mem (colF_has (l := l) (f := colOf n cols across) (k := l.length) hkl)
      have hMb : wideL (colF l (colOf n cols across) l.length (colOf n cols across k)) ≤ 2 * ((4000 : Nat) : Int) := wideL_small fun y hy => HZ.out y (colF_mem (Nat.le_refl _) hy)
      have hwb := wd_bd (atL l k) 0
      have hzz := HZ.out _ (atL_mem hkl)
      have HWa := Lib.hid (wds_at hkl)
      have HGp := Lib.hid (show (gapN (colF l (colOf n cols across) l.length (colOf n cols across k)) (atL l k) : Int) = wideL (colF l (colOf n cols across) l.length (colOf n cols across k)) + 2 - wd (atL l k) 0 from by unfold gapN; omega)
      rw [HN.out] at HSt HLs HCa hmem hMb HGp
      generalize wideL (colF l (colOf n cols across) n (colOf n cols across k)) = M at *
      have HLz := Lib.hid (HLs.out _ HGp.out.symm)
      clear HLs HGp
      generalize wd (atL l k) 0 = S at *
      generalize lastG (entsK l cols across k (rowOf n cols across k)) = G at *
      generalize colOf n cols across k = c at *
      generalize rowOf n cols across k = r at *
      go_wp2_with fail
      refine hpl.mono ?_
      clear hpl hcell
      rintro e w2 ⟨rfl, md, hmd⟩
      have HM2 := Lib.hid (HM.out.keep (show Below wr.heap.size wr w2 from by rw [hmd]; exact drawn_below wr md))
      clear hmd HM
      have a0 := owns_cell HM2.out.lac (ints_at HLa.out)
      go_upto_region 10 with fail
      go_still_tail 7, (by kernel_rfl)
      change wpList _ _ _ _ _ w2.drew
      have HM3 := Lib.hid (HM2.out.keep (drawn_one w2))
      clear a0 HM2
      generalize w2.drew = w3 at *
      obtain ⟨V3, hV3⟩ := HM3.out.bld
      have HV3 := Lib.hid hV3
      clear hV3
      go_wp2_with (go_at_call 33; go_loud (refine (blanks_at HV3.out hrt ?h1 G (by omega) (by rw [HTr.out]; omega)).mono ?_; (case h1 => omega); rintro e w4 ⟨rfl, hst⟩; have HM4 := Lib.hid (HM3.out.wrote hst.1 hst.2.1 hst.2.2); clear hst HM3 HV3))
      obtain ⟨V4, hV4⟩ := HM4.out.bld
      have HV4 := Lib.hid hV4
      clear hV4
      refine (write_any HV4.out hrt ?h1 (atL l k) (by rw [upd_here, HTr.out, app_size, blankL_size]; omega)).mono ?_
      case h1 => omega
      rintro e w5 ⟨⟨v5, rfl⟩, hv5, hb5, hk5⟩
      have HM5 := Lib.hid (HM4.out.wrote hv5 hb5 hk5)
      rw [HSt.out] at HM5
      clear hv5 hb5 hk5 HM4 HV4 HSt
      have HW5 := HM5.out.wid
      rw [HN.out] at HW5
      have a1 := owns_cell HM5.out.col (ints_at HCa.out)
      have a2 := owns_cell HW5 (ints_at HWa.out)
      clear HW5
      go_upto_region 12 with fail
      go_still_tail 13, (by kernel_rfl)
      change wpList _ _ _ _ _ w5.drew
      have HM6 := Lib.hid (HM5.out.keep (drawn_one w5))
      clear a1 a2 HM5
      generalize w5.drew = w6 at *
      have a3 := owns_cell HM6.out.lac (ints_at HLa.out)
      have a4 := owns_frozen HM6.out.lac r
      have HM7 := Lib.hid (HM6.out.lack HNe.out.1 HNe.out.2 (r := r) (by rw [lacks_len]; exact hrt) (M + 2 - S))
      rw [HLz.out] at HM7
      go_wp2_with fail
      go_roundw
      case rel => exact ⟨k + 1, by omega, by go_num, HM7⟩
      case measure => simp [intOf]; omega
    · have e1 : decide ((k : Int) < (n : Int)) = false := decide_eq_false (by omega)
      have hkn : k = n := by omega
      subst hkn
      obtain ⟨V9, hV9⟩ := HM.out.bld
      have HV9 := Lib.hid hV9
      have HB9 := Lib.hid HM.out.bel
      clear hV9 HM
      go_upto_region 15 with (at_make; go_loud (refine wpList_make_full _ rfl (.tmp 78) (.tmp 78) 22 rfl w.heap.size 9 is (.string ⟨#[]⟩) 1 Tryd.underlying22 his hs0 hs1 .i64 .i64 _ _ rows rfl rfl rfl rfl (by rw [hs2]; omega) (by unfold maxLen; omega) HB9.out.size ?_; intro wt hown hgrow))
      rw [texts_made] at hown
      have hbel : Below wr.heap.size wr wt := (Below.refl _ _).grown hgrow (Nat.le_refl _) (fun j hj => by cases hj)
      have HOt := Lib.hid (show wt.ownsRow w.heap.size 9 1 (ownS wr.heap.size rows) rows (strs (tellK L 0)) from by rw [tellK_zero, HPl.out]; exact hown)
      have HVt := Lib.hid (show ∃ V, Blds w.heap.size gB rows (rowsT l cols across k) V wt from ⟨V9, HV9.out.keep hbel⟩)
      have HBt := Lib.hid (below_two HB9.out hbel)
      clear hown hgrow hbel HV9 HB9
      generalize wr.heap.size = gT at *
      go_wp2_with fail
      go_loopw [82] (TellRel L rows gB gT (rowsT l cols across k) w) (fun v _ => rows - (intOf v).toNat)
      case atStart => exact ⟨0, Nat.zero_le _, rfl, HOt, HVt, HBt⟩
      case round =>
        clear HOt HVt HBt
        obtain ⟨j, hj, rfl, HO, HV, HB⟩ := hrel
        by_cases hjr : j < rows
        · have e2 : decide ((j : Int) < (rows : Int)) = true := decide_eq_true (by omega)
          obtain ⟨V, hV⟩ := HV.out
          have HVj := Lib.hid hV
          clear hV HV
          have hjL : j < L.length := by rw [HPl.out]; exact hjr
          have hjk := (joinK_size (l := l) (cols := cols) (across := across) (k := k) (r := j) (by rw [HN.out]; exact Nat.le_refl _) (by rw [HN.out]; exact hl) HZ.out).1
          have HTj := Lib.hid (HPa.out j hjr)
          have HS := Lib.hid (tellK_step hjL)
          have HAt := Lib.hid (tellK_at hjL)
          have HLn := Lib.hid (tellK_len (L := L) (k := j) (by omega))
          go_wp2_with fail
          refine (text_any HVj.out hjr ?h1 (by show (joinT (entsK l cols across k j)).size ≤ _; omega)).mono ?_
          case h1 => omega
          rintro e w7 ⟨rfl, hv7, hb7, hk7⟩
          rw [← HTj.out]
          have HO7 := Lib.hid (others_row HO.out hk7 (by decide) (row_apart HO.out HVj.out (by decide)))
          have HO8 := Lib.hid (show (w7.setCell ⟨gT, j, none⟩ (.string (atL L j))).ownsRow w.heap.size 9 1 (ownS gT rows) rows (strs (tellK L (j + 1))) from by
            have := owns_setCell HO7.out (j := j) (by rw [strs_len, HLn.out]; exact hjL) (.string (atL L j))
            rwa [strs_set, HS.out] at this)
          have HV8 := Lib.hid (show ∃ V, Blds w.heap.size gB rows (rowsT l cols across k) V (w7.setCell ⟨gT, j, none⟩ (.string (atL L j))) from ⟨V, bld_far hv7 HO7.out (by decide) (by decide) j _⟩)
          have HB8 := Lib.hid ((HB.out.trans hb7).setCell (p := ⟨gT, j, none⟩) (own_base HO.out).1 (.string (atL L j)))
          have a1 := owns_cell HO7.out (strs_at HAt.out)
          have a2 := owns_frozen HO7.out j
          clear hv7 hb7 hk7
          generalize atL L j = S at *
          go_wp2_with fail
          go_roundw
          case rel => exact ⟨j + 1, by omega, by go_num, HO8, HV8, HB8⟩
          case measure => simp [intOf]; omega
        · have e2 : decide ((j : Int) < (rows : Int)) = false := decide_eq_false (by omega)
          have hje : j = rows := by omega
          subst hje
          have HE := Lib.hid (show tellK L j = L from by rw [← HPl.out]; exact tellK_end L)
          rw [HE.out] at HO
          go_wp2_with fail
          go_ret
          exact ⟨_, _, rfl, HPl.out.symm, HO.out, HB.out⟩
end Go.Proofs.YtemnbleacjpfcaaDoor.L
