/-
  A scope in which the run jumps among several labels: what holds at each of them leads on, and a measure falls. Conditions: none.
  What roam.Walk returns: the model's visits. Conditions: what is asked answers as a tree does; at most 200000 visits, names of at most 90000 bytes.
-/
import Derived.Test.YtpikndeefiediaaGreatDoorKOBase
import Derived.Test.YtpikndeefiediaaGreatDoorKGOpen
set_option linter.unusedVariables false
set_option linter.unusedSimpArgs false
namespace Go.Proofs.YtpikndeefiediaaGreatDoor.B
open Go.RowKit

section
variable {P : Program} {Q : Exit → Act → World → Prop}
/-- As Q; by a jump to a label: what holds at that label. -/
def hops (J : Nat → Act → World → Prop) (Q : Exit → Act → World → Prop) (e : Exit) (a : Act) (w : World) : Prop :=
  match e with
  | .goto l => J l a w
  | e => Q e a w
theorem hops_ret {J : Nat → Act → World → Prop} {a : Act} {w : World} (h : Q .ret a w) : hops J Q .ret a w := h
theorem hops_goto {J : Nat → Act → World → Prop} {l : Nat} {a : Act} {w : World} (h : J l a w) : hops J Q (.goto l) a w := h

/-- Whatever label is jumped to, what holds there leads on, and the measure falls: then the scope ends as Q. -/
theorem wp_scope_hops {c : Code} (J : Nat → Act → World → Prop) (μ : Nat → Act → World → Nat) {a : Act} {w : World}
    (pass : ∀ l a w, J l a w → ∃ rest, findLabel c l = some rest ∧ rest.wp P (hops (fun l' a' w' => J l' a' w' ∧ μ l' a' w' < μ l a w) Q) a w)
    (start : c.wp P (hops J Q) a w) : (Code.scope c).wp P Q a w := by
  intro b k cs
  have onward : ∀ n l rest, findLabel c l = some rest → ∀ a w, μ l a w = n → J l a w → ∃ e a' w', Q e a' w' ∧ Arrives P (lone (b.at a (.code rest :: .inScope c :: k)) cs w) b k cs e a' w' := by
    intro n
    induction n using Nat.strongRecOn with
    | _ n ih =>
      intro l rest hl a w hn hJ
      obtain ⟨rest', hl', hw⟩ := pass l a w hJ
      obtain rfl : rest' = rest := Option.some.inj (hl'.symm.trans hl)
      obtain ⟨e, a1, w1, hq, hr⟩ := hw b (.inScope c :: k) cs
      cases e with
      | normal => exact ⟨.normal, a1, w1, hq, Steps.trans hr (.one step_inScope)⟩
      | exit id => exact ⟨.exit id, a1, w1, hq, fun k' hk => hr k' (by simp [exitTo, hk])⟩
      | goto l2 =>
        have hq' : J l2 a1 w1 ∧ μ l2 a1 w1 < μ l a w := hq
        obtain ⟨rest2, hl2, _⟩ := pass l2 a1 w1 hq'.1
        obtain ⟨e2, a2, w2, hq2, hr2⟩ := ih _ (by omega) l2 rest2 hl2 a1 w1 rfl hq'.1
        exact ⟨e2, a2, w2, hq2, .of_steps (hr _ (by simp [gotoIn, hl2])) hr2⟩
      | ret => exact ⟨_, a1, w1, hq, hr⟩
      | panic ch => exact ⟨_, a1, w1, hq, hr⟩
      | outgrown => exact ⟨_, a1, w1, hq, hr⟩
  obtain ⟨e, a1, w1, hq, hr⟩ := start b (.inScope c :: k) cs
  cases e with
  | normal => exact ⟨.normal, a1, w1, hq, .head step_scope (Steps.trans hr (.one step_inScope))⟩
  | exit id => exact ⟨.exit id, a1, w1, hq, fun k' hk => .head step_scope (hr k' (by simp [exitTo, hk]))⟩
  | goto l =>
    have hq' : J l a1 w1 := hq
    obtain ⟨rest, hl, _⟩ := pass l a1 w1 hq'
    obtain ⟨e2, a2, w2, hq2, hr2⟩ := onward _ l rest hl a1 w1 rfl hq'
    exact ⟨e2, a2, w2, hq2, .of_steps (.head step_scope (hr _ (by simp [gotoIn, hl]))) hr2⟩
  | ret => exact ⟨_, a1, w1, hq, .of_steps (.one step_scope) hr⟩
  | panic ch => exact ⟨_, a1, w1, hq, .of_steps (.one step_scope) hr⟩
  | outgrown => exact ⟨_, a1, w1, hq, .of_steps (.one step_scope) hr⟩
end
end Go.Proofs.YtpikndeefiediaaGreatDoor.B

namespace Go.Proofs.YtpikndeefiediaaGreatDoor.G
open Go.RowKit

def lenAt (w : World) (b : Nat) : Nat := match w.cell? ⟨b, 6, none⟩ with
  | some (.slice _ n _) => n
  | _ => 0
section
variable {T : Tr} {E : Int → Int} {W0 : World} {R nb : Nat} {nc : Array Value} {b p : Nat} {u g most : Int} {all : Bool} {S : List Fr} {D : List Vis} {sv vv : Value} {w : World}
theorem Wk.lenAt (h : Wk W0 R nb nc b p u g most all S D sv vv w) : lenAt w b = D.length := by
  have c6 := h.cell (j := 6) rfl
  obtain ⟨ao, cap, e⟩ := B.owns_form h.vis
  unfold G.lenAt
  rw [c6, e]
  rfl
theorem Wk.renow (h : Wk W0 R nb nc b p u g most all S D sv vv w) (hB : W0.heap.size ≤ nb) (nc' : Array Value) : Wk W0 R nb nc' b p u g most all S D sv vv (w.setRow nb nc') := by
  have hlt := h.lt
  refine ⟨?_, B.owns_at h.stk fun j hj => setRow_other _ _ _ _ ?_, B.owns_at h.vis fun j hj => setRow_other _ _ _ _ ?_, fun y hy => (h.ents y hy).at_ fun j cur _ hj => ?_, below_setRow h.low hB _, h.ge, setRow_heap _ _ _ _ _ _ h.now, h.lt, h.rge, by simpa [World.setRow] using h.rle⟩
  · rw [setRow_other _ _ _ _ (fun e => h.n_ne e.symm)]; exact h.head
  · have := (h.stk.lt j hj).1; omega
  · have := (h.vis.lt j hj).1; omega
  · rw [setRow_other _ _ _ _ (by rintro rfl; rw [h.now] at hj; simp at hj)]; exact hj
end
theorem then_normal {K : Act → World → Prop} {Q : Exit → Act → World → Prop} {a : Act} {w : World} (h : K a w) : Exit.then K Q .normal a w := h
def goodS (S : List Fr) : Prop := deepS S ∧ ∀ x ∈ S, x.v.name.size ≤ 90000 ∧ ∀ e ∈ x.l, e.1.size ≤ 1000
/-- What holds at the walk's two labels: the visits that were told and those that are to come are the whole walk. -/
def WRel (T : Tr) (most : Int) (L : List Vis) (W0 : World) (R nb b p : Nat) (u g : Int) (all : Bool) (l : Nat) (w' : World) : Prop :=
  ∃ (S : List Fr) (D : List Vis) (sv vv : Value) (nc : Array Value), nc.size = 7 ∧ Hid (Wk W0 R nb nc b p u g (deepestI most) all S D sv vv w') ∧ Hid (goodS S) ∧
    ((l = 1 ∧ Hid (L = D ++ restV T most S)) ∨ (l = 0 ∧ ∃ v : Vis, nc = (visC (atV T v)).toArray ∧ Hid (v.depth = (S.length : Int) ∧ L = D ++ (wkV T most v ++ restV T most S))))
def JW (T : Tr) (most : Int) (L : List Vis) (W0 : World) (R nb b p : Nat) (u g : Int) (all : Bool) (l : Nat) (a : Act) (w' : World) : Prop :=
  ∃ u0 u1 u2 u3 u4 u5 u6 u7 u8 u9 u10 u11 u12 u13 u14 u17 u18 u19 u20 u21 u22 u23 u24 u25 u26 u27 u28 u29 u30 u31 u32 u33 u34 u35 u36 u37 u38 u39 u40 u41 u42 u43 u44 u45 u46 u47 u48 u49 u50 u51 u52 u53 u54 u55 : Value, WRel T most L W0 R nb b p u g all l w' ∧ a = { tmps := #[u0, u1, u2, u3, u4, u5, u6, u7, u8, u9, u10, u11, u12, u13, u14, .pointer (some ⟨b, 0, none⟩), .pointer (some ⟨nb, 0, none⟩), u17, u18, u19, u20, u21, u22, u23, u24, u25, u26, u27, u28, u29, u30, u31, u32, u33, u34, u35, u36, u37, u38, u39, u40, u41, u42, u43, u44, u45, u46, u47, u48, u49, u50, u51, u52, u53, u54, u55], defers := [] }
def muW (L : List Vis) (b : Nat) (l : Nat) (w : World) : Nat := 2 * (L.length - lenAt w b) + (if l = 1 then 1 else 0)
/-- What stands behind a label. -/
def IsPart (l : Nat) (r : Code) : Prop := ∃ r0 c, Tryz.f19.body = some (.seq r0 (.scope c)) ∧ findLabel c l = some (.seq .skip r)
/-- A return with the slice of visits. -/
def RetW (L : List Vis) (W0 : World) (R nb b : Nat) (a : Act) (w' : World) : Prop :=
  ∃ vv u0 u1 u2 u3 u4 u5 u6 u7 u8 u9 u10 u11 u13 u14 u17 u18 u19 u20 u21 u22 u23 u24 u25 u26 u27 u28 u29 u30 u31 u32 u33 u34 u35 u36 u37 u38 u39 u40 u41 u42 u43 u44 u45 u46 u47 u48 u49 u50 u51 u52 u53 u54 u55 : Value, w'.ownsRow R 82 7 vv L.length (rowsC visC L) ∧ Below W0.heap.size W0 w' ∧ a = { tmps := #[u0, u1, u2, u3, u4, u5, u6, u7, u8, u9, u10, u11, vv, u13, u14, .pointer (some ⟨b, 0, none⟩), .pointer (some ⟨nb, 0, none⟩), u17, u18, u19, u20, u21, u22, u23, u24, u25, u26, u27, u28, u29, u30, u31, u32, u33, u34, u35, u36, u37, u38, u39, u40, u41, u42, u43, u44, u45, u46, u47, u48, u49, u50, u51, u52, u53, u54, u55], defers := [] }

section
variable {T : Tr} {E : Int → Int} {W0 : World} {R nb : Nat} {b p : Nat} {u g most : Int} {all : Bool} {L : List Vis} {Q : Exit → Act → World → Prop}
set_option maxRecDepth 100000 in
set_option maxHeartbeats 8000000 in
theorem next_part (HT : Tel T E W0 p u g all) (hB : W0.heap.size ≤ nb) (hL : L.length ≤ 200000) (hN : ∀ x ∈ L, x.name.size ≤ 90000) {c : Code} (hc : IsPart 1 c) (a : Act) (w : World) (hJ : JW T most L W0 R nb b p u g all 1 a w)
    (hg : ∀ l2 a2 w2, JW T most L W0 R nb b p u g all l2 a2 w2 → muW L b l2 w2 < muW L b 1 w → Q (.goto l2) a2 w2) (hr : ∀ a2 w2, RetW L W0 R nb b a2 w2 → Q .ret a2 w2) : c.wp Tryz.prog Q a w := by
  obtain ⟨u0, u1, u2, u3, u4, u5, u6, u7, u8, u9, u10, u11, u12, u13, u14, u17, u18, u19, u20, u21, u22, u23, u24, u25, u26, u27, u28, u29, u30, u31, u32, u33, u34, u35, u36, u37, u38, u39, u40, u41, u42, u43, u44, u45, u46, u47, u48, u49, u50, u51, u52, u53, u54, u55, ⟨S, D, sv, vv, nc, hnc, HW, HS, hl⟩, rfl⟩ := hJ
  rcases hl with ⟨_, HL⟩ | ⟨h, _⟩
  case inr => cases h
  have HG := Lib.hid hg
  have HR := Lib.hid hr
  clear hg hr
  obtain ⟨r0, c0, hc1, hc2⟩ := hc
  cases hc1
  cases hc2
  cases S with
  | nil =>
    obtain ⟨ao, cap, hsv⟩ := B.owns_form HW.out.stk
    subst hsv
    have c5 : w.cell? ⟨b, 5, none⟩ = some (.slice ao 0 cap) := HW.out.cell (j := 5) rfl
    have c6 := HW.out.cell (j := 6) rfl
    have HLe := Lib.hid (show D = L from by rw [HL.out]; exact (List.append_nil D).symm)
    go_wp2_with fail
    refine HR.out _ _ ?_
    unfold RetW
    (repeat apply Exists.intro)
    refine ⟨?o, HW.out.low, rfl⟩
    case o => rw [← HLe.out]; exact HW.out.vis
  | cons x r =>
    have hS := HS.out
    obtain ⟨hdp, hgd⟩ := hS
    obtain ⟨hx1, hx2⟩ := hgd x List.mem_cons_self
    have hrl : r.length ≤ 1000 := by have := hdp.2.1; omega
    have HDp := Lib.hid hdp
    have HGd := Lib.hid hgd
    have HX := Lib.hid (And.intro hx1 hx2)
    clear hdp hgd hx1 hx2 HS
    obtain ⟨k, cap, hsv, _, _, _⟩ := HW.out.stack (by simp)
    rw [List.length_cons] at hsv
    subst hsv
    have c5 : w.cell? ⟨b, 5, none⟩ = some (.slice (some ⟨k, 0, none⟩) (r.length + 1) cap) := HW.out.cell (j := 5) rfl
    have d5 : (((r.length + 1 : Nat) : Int) == 0) = false := by rw [beq_eq_false_iff_ne]; omega
    have d6 : ((r.length : Int) + 1 == 0) = false := by rw [beq_eq_false_iff_ne]; omega
    have hDL : D.length < L.length := by
      rw [HL.out, List.length_append]
      have : 0 < (restV T most (x :: r)).length := by
        show 0 < (kidsV (wkV T most) x.v x.l ++ (overV x.v :: restV T most r)).length
        rw [List.length_append, List.length_cons]; omega
      omega
    have HDone := Lib.hid (done_any HW.out hrl)
    go_wp2_with fail
    refine HDone.out.mono ?_
    rintro e w2 ⟨rfl, hb⟩
    have HW2 := Lib.hid (HW.out.keep hb)
    have HLn := Lib.hid HW.out.lenAt
    clear hb HDone c5 d5 d6 HW
    obtain ⟨v, lv, l⟩ := x
    cases l with
    | nil =>
      have hd : decide (([] : List (ByteArray × Int)) = []) = true := rfl
      have HC := Lib.hid (close_any HW2.out hrl (by omega))
      rw [hd]
      go_wp2_with fail
      refine HC.out.mono ?_
      rintro e w3 ⟨rfl, sv', vv', h3⟩
      have HW3 := Lib.hid h3
      clear h3 HC
      go_wp2_with fail
      go_step3
      refine HG.out 1 _ _ ?jw ?mu
      case jw =>
        unfold JW
        (repeat apply Exists.intro)
        refine ⟨?rel, rfl⟩
        case rel => exact ⟨r, D ++ [overV v], sv', vv', nc, hnc, HW3, Lib.hid ⟨HDp.out.2.2, fun y hy => HGd.out y (List.mem_cons_of_mem _ hy)⟩, .inl ⟨rfl, Lib.hid (by rw [HL.out, rest_over, List.append_assoc]; rfl)⟩⟩
      case mu =>
        unfold muW
        rw [HLn.out, HW3.out.lenAt, List.length_append, if_pos rfl, List.length_singleton]
        omega
    | cons y l =>
      have hd : decide ((y :: l : List (ByteArray × Int)) = []) = false := rfl
      have HNx := Lib.hid (next_any HT HW2.out hrl HDp.out.1 (by have := HX.out.1; show v.name.size ≤ _; have h2 : v.name.size ≤ 90000 := HX.out.1; omega) (by have h2 := HX.out.2 y List.mem_cons_self; omega))
      rw [hd]
      go_wp2_with fail
      refine HNx.out.mono ?_
      rintro e w3 ⟨rfl, c, h3⟩
      have HW3 := Lib.hid h3
      have HW4 := Lib.hid (h3.renow hB (visC (atV T (kidV v y l.isEmpty))).toArray)
      clear h3 HNx
      go_wp2_with (refine wpList_store_row rfl 82 (.tmp 16) (.tmp 55) rfl nb (visC (atV T (kidV v y l.isEmpty))).toArray rfl rfl 82 _ HW3.out.now sizeVis hnc (all_oneCell_toArray (visC_one _)) ?_)
      go_step3
      refine HG.out 0 _ _ ?jw ?mu
      case jw =>
        unfold JW
        (repeat apply Exists.intro)
        refine ⟨?rel, rfl⟩
        case rel => exact ⟨⟨v, c, l⟩ :: r, D, _, vv, _, rfl, HW4, Lib.hid ⟨⟨HDp.out.1, HDp.out.2.1, HDp.out.2.2⟩, fun z hz => by
          rcases List.mem_cons.1 hz with rfl | hz
          · exact ⟨HX.out.1, fun e he => HX.out.2 e (List.mem_cons_of_mem _ he)⟩
          · exact HGd.out z (List.mem_cons_of_mem _ hz)⟩, .inr ⟨rfl, kidV v y l.isEmpty, rfl, Lib.hid ⟨by
            have h1 : v.depth = (r.length : Int) := HDp.out.1
            show v.depth + 1 = ((r.length + 1 : Nat) : Int)
            omega, by rw [HL.out, rest_next (b := c)]⟩⟩⟩
      case mu =>
        unfold muW
        rw [HLn.out, HW4.out.lenAt, if_pos rfl, if_neg (by decide)]
        omega

set_option maxRecDepth 100000 in
set_option maxHeartbeats 8000000 in
theorem visit_part (HT : Tel T E W0 p u g all) (hB : W0.heap.size ≤ nb) (hL : L.length ≤ 200000) (hN : ∀ x ∈ L, x.name.size ≤ 90000) (hE : ∀ d, ∀ e ∈ (T.shown d).2, e.1.size ≤ 1000) {c : Code} (hc : IsPart 0 c) (a : Act) (w : World) (hJ : JW T most L W0 R nb b p u g all 0 a w)
    (hg : ∀ l2 a2 w2, JW T most L W0 R nb b p u g all l2 a2 w2 → muW L b l2 w2 < muW L b 0 w → Q (.goto l2) a2 w2) (hr : ∀ a2 w2, RetW L W0 R nb b a2 w2 → Q .ret a2 w2) : c.wp Tryz.prog Q a w := by
  obtain ⟨u0, u1, u2, u3, u4, u5, u6, u7, u8, u9, u10, u11, u12, u13, u14, u17, u18, u19, u20, u21, u22, u23, u24, u25, u26, u27, u28, u29, u30, u31, u32, u33, u34, u35, u36, u37, u38, u39, u40, u41, u42, u43, u44, u45, u46, u47, u48, u49, u50, u51, u52, u53, u54, u55, ⟨S, D, sv, vv, nc, hnc, HW, HS, hl⟩, rfl⟩ := hJ
  rcases hl with ⟨h, _⟩ | ⟨_, v, hv, HL⟩
  case inl => cases h
  have HG := Lib.hid hg
  have HR := Lib.hid hr
  have HNm := Lib.hid hN
  have HEn := Lib.hid hE
  subst hv
  clear hg hr hN hE hnc
  obtain ⟨r0, c0, hc2, hc3⟩ := hc
  cases hc2
  cases hc3
  obtain ⟨vd, hvd⟩ : ∃ vd, atV T v = vd := ⟨_, rfl⟩
  have HVd := Lib.hid hvd
  rw [hvd] at HW
  clear hvd
  obtain ⟨i0, hi0, hz0, hz1, hz2⟩ := info_parts infoVis
  have HSl := Lib.hid (deepS_len HS.out.1)
  obtain ⟨rw0, hrw0⟩ := wk_pos T most v
  have HLv := Lib.hid (show L = D ++ (vd :: (rw0 ++ restV T most S)) from by rw [HL.out.2, hrw0, HVd.out]; rfl)
  have hDL : D.length < L.length := by rw [HLv.out, List.length_append, List.length_cons]; omega
  have HVn := Lib.hid (show vd.name.size ≤ 90000 from HNm.out vd (by rw [HLv.out]; exact List.mem_append_right _ List.mem_cons_self))
  clear hrw0 HLv
  have HA := Lib.hid (fun o => HW.out.keep ((Below.refl w.heap.size w).alloc (Nat.le_refl _) o))
  have HLn := Lib.hid HW.out.lenAt
  have HNe := Lib.hid (show some b ≠ vv.ownBlock from fun e => HW.out.v_ne e.symm rfl)
  have c6 := HW.out.cell (j := 6) rfl
  go_upto_region 7 with (first
    | (refine wpList_load_row rfl 82 (.tmp 16) rfl nb rfl 82 #[.int .i64 vd.id, .int .i64 vd.depth, .string vd.name, .string vd.base, .bool vd.last, .bool vd.over, .int .i64 vd.err] (0, 0) _ HW.out.now Tryz.underlying82 rfl sizeVis ?_)
    | (at_builtin; go_loud (refine wpList_append_lies _ rfl (.tmp 38) (.tmp 40) 79 rfl R 82 i0 _ 7 64 Tryz.underlying79 hi0 hz0 hz1 hz2 rfl (by decide) vv D.length (rowsC visC D) rfl (HA.out _).vis ⟨w.heap.size, 0, none⟩ 1 1 (visC vd) rfl rfl (World.news_of_block (heap_alloc_new _ _)) (visC_one _) (by decide) (by unfold maxLen; omega) (by omega) (HA.out _).rle _ rfl ?_; intro g1 cap1 w1 hown hgrow hat hlt1; have q1 := (hgrow.cell_far ⟨b, 6, none⟩ (B.heap_lt (HA.out _).head) HNe.out).trans ((HA.out _).cell (j := 6) rfl); have q2 := (hgrow.frozen_far ⟨b, 6, none⟩ (B.heap_lt (HA.out _).head) HNe.out).trans ((HA.out _).free 6); have HW1 := Lib.hid ((HA.out _).visit (E := [vd]) hown hgrow); clear hown hgrow hat)))
  generalize w1.setCell ⟨b, 6, none⟩ (.slice (some ⟨g1, 0, none⟩) (D.length + 1) cap1) = w2 at HW1 ⊢
  clear q1 q2 c6 HA HNe HW hlt1
  have HGo := Lib.hid (goes_any HT vd HW1.out)
  unfold visV at HGo
  go_wp2_with (refine wpList_load_row rfl 82 (.tmp 16) rfl nb rfl 82 #[.int .i64 vd.id, .int .i64 vd.depth, .string vd.name, .string vd.base, .bool vd.last, .bool vd.over, .int .i64 vd.err] (0, 0) _ HW1.out.now Tryz.underlying82 rfl sizeVis ?_)
  refine HGo.out.mono ?_
  rintro e w3 ⟨rfl, hb3⟩
  have HW3 := Lib.hid (HW1.out.keep hb3)
  clear hb3 HW1 HGo
  by_cases hd : (T.dir vd.id && decide (vd.depth < deepestI most)) = true
  · have HCd := Lib.hid (show T.dir (T.over v.id) = true ∧ deepB most v.depth = true from by
      rw [← HVd.out] at hd
      have h2 : (T.dir (T.over v.id) && decide (v.depth < deepestI most)) = true := hd
      rw [← deepest_deep, Bool.and_eq_true] at h2
      exact h2)
    have HOp := Lib.hid (open_any HT vd HW3.out (by have := HSl.out; omega) (by rw [List.length_append, List.length_singleton]; omega))
    unfold visV at HOp
    rw [hd]
    clear hd
    go_wp2_with (refine wpList_load_row rfl 82 (.tmp 16) rfl nb rfl 82 #[.int .i64 vd.id, .int .i64 vd.depth, .string vd.name, .string vd.base, .bool vd.last, .bool vd.over, .int .i64 vd.err] (0, 0) _ HW3.out.now Tryz.underlying82 rfl sizeVis ?_)
    refine HOp.out.mono ?_
    rintro e w4 ⟨rfl, hop⟩
    have HLd := Lib.hid (show (T.shown (T.over v.id)) = T.shown vd.id from by rw [← HVd.out]; rfl)
    clear HOp HW3
    rcases hop with ⟨he, vv', h4⟩ | ⟨he, lv, sv', h4⟩
    · have HW4 := Lib.hid h4
      have HE4 := Lib.hid he
      clear h4 he
      go_wp2_with fail
      go_step3
      refine then_normal ?_
      apply_assumption
      refine next_part HT hB hL HNm.out ⟨_, _, rfl, rfl⟩ _ _ ?jw1 (fun l2 a2 w2 hj hlt => HG.out l2 a2 w2 hj (Nat.lt_of_lt_of_le hlt ?mu1)) HR.out
      case jw1 =>
        unfold JW
        (repeat apply Exists.intro)
        refine ⟨?rel1, rfl⟩
        case rel1 => exact ⟨S, D ++ [vd] ++ [errV vd (T.shown vd.id).1], sv, vv', _, rfl, HW4, HS, .inl ⟨rfl, Lib.hid (by
          have h1 := wk_err (by have := HL.out.1; omega) (by have := HL.out.1; have := HSl.out; omega) HCd.out (by rw [HLd.out]; exact HE4.out)
          rw [HVd.out, HLd.out] at h1
          rw [HL.out.2, h1]
          simp)⟩⟩
      case mu1 =>
        unfold muW
        rw [HLn.out, HW4.out.lenAt, if_pos rfl, if_neg (by decide)]
        simp only [List.length_append, List.length_singleton]
        omega
    · have HW4 := Lib.hid h4
      have HE4 := Lib.hid he
      clear h4 he
      go_wp2_with fail
      go_step3
      refine then_normal ?_
      apply_assumption
      refine next_part HT hB hL HNm.out ⟨_, _, rfl, rfl⟩ _ _ ?jw2 (fun l2 a2 w2 hj hlt => HG.out l2 a2 w2 hj (Nat.lt_of_lt_of_le hlt ?mu2)) HR.out
      case jw2 =>
        unfold JW
        (repeat apply Exists.intro)
        refine ⟨?rel2, rfl⟩
        case rel2 => exact ⟨⟨vd, lv, (T.shown vd.id).2⟩ :: S, D ++ [vd], sv', _, _, rfl, HW4, Lib.hid ⟨⟨by
            have h1 : vd.depth = v.depth := by rw [← HVd.out]; rfl
            rw [h1]; exact HL.out.1, by have h1 := deep_lt HCd.out.2; have h2 := HL.out.1; omega, HS.out.1⟩, fun z hz => by
            rcases List.mem_cons.1 hz with rfl | hz
            · exact ⟨HVn.out, fun e he => HEn.out _ e he⟩
            · exact HS.out.2 z hz⟩, .inl ⟨rfl, Lib.hid (by
          have h1 := wk_dir (by have := HL.out.1; omega) (by have := HL.out.1; have := HSl.out; omega) HCd.out (by rw [HLd.out]; exact HE4.out)
          rw [HVd.out, HLd.out] at h1
          rw [HL.out.2, h1]
          show _ = D ++ [vd] ++ (kidsV (wkV T most) vd (T.shown vd.id).2 ++ (overV vd :: restV T most S))
          simp)⟩⟩
      case mu2 =>
        unfold muW
        rw [HLn.out, HW4.out.lenAt, if_pos rfl, if_neg (by decide)]
        simp only [List.length_append, List.length_singleton]
        omega
  · have HCd := Lib.hid (show ¬ (T.dir (T.over v.id) = true ∧ deepB most v.depth = true) from fun q => hd (by
      rw [← HVd.out]
      show (T.dir (T.over v.id) && decide (v.depth < deepestI most)) = true
      rw [← deepest_deep, Bool.and_eq_true]
      exact q))
    have hd2 : (T.dir vd.id && decide (vd.depth < deepestI most)) = false := by simpa using hd
    rw [hd2]
    clear hd hd2
    go_wp2_with fail
    go_step3
    refine then_normal ?_
    apply_assumption
    refine next_part HT hB hL HNm.out ⟨_, _, rfl, rfl⟩ _ _ ?jw3 (fun l2 a2 w2 hj hlt => HG.out l2 a2 w2 hj (Nat.lt_of_lt_of_le hlt ?mu3)) HR.out
    case jw3 =>
      unfold JW
      (repeat apply Exists.intro)
      refine ⟨?rel3, rfl⟩
      case rel3 => exact ⟨S, D ++ [vd], sv, _, _, rfl, HW3, HS, .inl ⟨rfl, Lib.hid (by
        have h1 := wk_leaf (by have := HL.out.1; omega) (by have := HL.out.1; have := HSl.out; omega) HCd.out
        rw [HVd.out] at h1
        rw [HL.out.2, h1]
        simp)⟩⟩
    case mu3 =>
      unfold muW
      rw [HLn.out, HW3.out.lenAt, if_pos rfl, if_neg (by decide)]
      simp only [List.length_append, List.length_singleton]
      omega
end
end Go.Proofs.YtpikndeefiediaaGreatDoor.G
