/-
  What quote.run, hasHard and allPlain return. Conditions: the text has at most 1000000 bytes; the library's tables lie.
  What quote.hasHard and allPlain return. Conditions: the text has at most 1000000 bytes; the library's tables lie.
  What quote.between and bare return. Conditions: the text has at most 1000000 bytes; the library's tables lie.
  What quote.Quote returns in style 2. Conditions: the text has at most 1000000 bytes; the library's tables lie.
  The law TopGoesOn: of a good and a wrong operand the good one is told. Conditions: the tables of the world; what came in lies in memory.
-/
import Derived.Test.YtknfhphhcnbndaaGreatDoorGQFirst
import Derived.Test.YtknfhphhcnbndaaGreatDoorGZAwake
import Derived.Test.YtknfhphhcnbndaaGreatDoorGVArg
import Derived.Test.YtknfhphhcnbndaaGreatDoorGVMade
set_option linter.unusedVariables false
set_option linter.unusedSimpArgs false
namespace Go.Proofs.YtknfhphhcnbndaaGreatDoor.Q
open Go.RowKit

def intOf : Value → Int | .int _ q => q | _ => 0
theorem ret_str {a b : ByteArray} (h : a = b) : Ending.returned (.string a) = .returned (.string b) := by rw [h]

end Go.Proofs.YtknfhphhcnbndaaGreatDoor.Q

namespace Go.Proofs.YtknfhphhcnbndaaGreatDoor.Q
open Go.RowKit

end Go.Proofs.YtknfhphhcnbndaaGreatDoor.Q

namespace Go.Proofs.YtknfhphhcnbndaaGreatDoor.Q
open Go.RowKit

/-- The text of bytes. -/
def T (l : Bytes) : ByteArray := ⟨l.toArray⟩
theorem T_size (l : Bytes) : (T l).size = l.length := by rw [← L_len]; rfl
theorem L_add (a b : ByteArray) : L (a ++ b) = L a ++ L b := by
  show (a ++ b).data.toList = _
  rw [ByteArray.data_append, Array.toList_append]
theorem idx_split : ∀ (l : Bytes) (c : UInt8) (i : Nat), Lib.indexByte l c = (i : Int) → i < l.length ∧ c ∉ l.take i ∧ l.drop i = c :: l.drop (i + 1)
  | [], c, i, h => by simp only [Lib.indexByte] at h; omega
  | b :: l, c, i, h => by
    simp only [Lib.indexByte] at h
    by_cases hb : b = c
    · subst hb
      rw [if_pos (beq_self_eq_true b)] at h
      obtain rfl : i = 0 := by omega
      exact ⟨by simp, by simp, rfl⟩
    · have h1 : ¬ (b == c) = true := by simp [hb]
      rw [if_neg h1] at h
      by_cases h2 : (Lib.indexByte l c == -1) = true
      · rw [if_pos h2] at h; omega
      · rw [if_neg h2] at h
        obtain ⟨j, rfl⟩ : ∃ j, i = j + 1 := ⟨i - 1, by
          have := (idx_bd l c).1
          have : Lib.indexByte l c ≠ -1 := fun e => h2 (by rw [e]; rfl)
          omega⟩
        obtain ⟨p1, p2, p3⟩ := idx_split l c j (by omega)
        refine ⟨by simp; omega, ?_, ?_⟩
        · rw [List.take_succ_cons, List.mem_cons, not_or]
          exact ⟨Ne.symm hb, p2⟩
        · rw [List.drop_succ_cons, List.drop_succ_cons]; exact p3
theorem idx_none {l : Bytes} {c : UInt8} (h : Lib.indexByte l c < 0) : c ∉ l := (idx_neg l c).1 (by have := (idx_bd l c).1; omega)
theorem qb_none : ∀ {l : Bytes}, (39 : UInt8) ∉ l → l.flatMap qb = l
  | [], _ => rfl
  | b :: l, h => by
    rw [List.mem_cons, not_or] at h
    rw [List.flatMap_cons, qb_none h.2]
    unfold qb
    rw [if_neg (Ne.symm h.1)]
    rfl
theorem rep_all (l : Bytes) : Lib.replaceK [39] [39, 92, 39, 39] (Lib.count l [39]) l = l.flatMap qb := by
  obtain ⟨n, hn⟩ : ∃ n, l.length = n := ⟨_, rfl⟩
  induction n using Nat.strongRecOn generalizing l with
  | _ n ih =>
    by_cases h : Lib.indexByte l 39 < 0
    · have h1 : Lib.index l [39] = -1 := by rw [Lib.index_one]; have := (idx_bd l 39).1; omega
      rw [Lib.count_miss h1]
      rw [qb_none (idx_none h)]
      rfl
    · obtain ⟨i, hi⟩ : ∃ i : Nat, Lib.indexByte l 39 = i := ⟨(Lib.indexByte l 39).toNat, by omega⟩
      have h1 : Lib.index l [39] = (i : Int) := by rw [Lib.index_one, hi]
      obtain ⟨p1, p2, p3⟩ := idx_split l 39 i hi
      rw [Lib.count_hit (by simp) h1, Nat.add_comm, Lib.replaceK_hit _ _ _ _ i h1]
      simp only [List.length_cons, List.length_nil, Nat.zero_add]
      rw [ih _ (by rw [List.length_drop]; omega) _ rfl]
      conv => rhs; rw [← List.take_append_drop i l, p3, List.flatMap_append, List.flatMap_cons, qb_none p2]
      simp [qb]
theorem replaceAll_qb (l : Bytes) : Lib.replaceAll l [39] [39, 92, 39, 39] = l.flatMap qb := by
  unfold Lib.replaceAll Lib.replace Lib.replaceNum
  have : (([39] : List UInt8) == [39, 92, 39, 39]) = false := by decide
  rw [this, if_neg (by decide), if_pos (Or.inl (by decide)), rep_all]
theorem qb_len (l : Bytes) : (l.flatMap qb).length ≤ 4 * l.length := by
  induction l with
  | nil => simp
  | cons b l ih =>
    rw [List.flatMap_cons, List.length_append, List.length_cons]
    have : (qb b).length ≤ 4 := by unfold qb; split <;> simp
    omega
theorem bt_len (l : Bytes) : (bt l).length ≤ 4 * l.length + 2 := by
  have := qb_len l
  unfold bt
  simp only [List.length_cons, List.length_append, List.length_nil]
  omega

set_option maxHeartbeats 1000000 in
set_option maxRecDepth 100000 in
theorem between_any (s : ByteArray) (w : World) (hT : Tab w) (hs : s.size ≤ 1000000) :
    Calls Tryz.prog 73 #[.string s] w fun e w' => e = .returned (.string (T (bt (L s)))) ∧ Below w.heap.size w w' := by
  obtain ⟨_, m, hm⟩ := hT
  have hcount := Lib.countB_mul_le ⟨#[39]⟩ (by decide) s.size s (Nat.le_refl _)
  have h39 : (ByteArray.mk #[39]).size = 1 := rfl
  have h4 : (ByteArray.mk #[39, 92, 39, 39]).size = 4 := rfl
  have cR : Calls Tryz.prog 119 #[.string s, .string ⟨#[39]⟩, .string ⟨#[39, 92, 39, 39]⟩] w fun e w' => e = .returned (.string (T ((L s).flatMap qb))) ∧ Below w.heap.size w w' := by
    refine (Tryz.strings_ReplaceAll s ⟨#[39]⟩ ⟨#[39, 92, 39, 39]⟩ m w (by omega) hm (by decide) (by rw [h39] at hcount; rw [h4]; omega)).mono ?_
    rintro e w' ⟨rfl, hb⟩
    refine ⟨ret_str ?_, hb⟩
    exact L_ext (replaceAll_qb (L s))
  have hz := qb_len (L s)
  rw [L_len] at hz
  have hfin : T ([39] ++ (L s).flatMap qb ++ [39]) = T (bt (L s)) := rfl
  generalize (L s).flatMap qb = q at *
  have ha1 : ∀ w : World, (Op.stringOp .add ⟨#[39]⟩ (T q)).run Tryz.prog w = .ok (.string (⟨#[39]⟩ ++ T q)) w := fun w => run_string_add_sum w _ _ (by rw [h39, T_size]; omega)
  have ha2 : ∀ w : World, (Op.stringOp .add (⟨#[39]⟩ ++ T q) ⟨#[39]⟩).run Tryz.prog w = .ok (.string (⟨#[39]⟩ ++ T q ++ ⟨#[39]⟩)) w := fun w => run_string_add_sum w _ _ (by rw [ByteArray.size_append, h39, T_size]; omega)
  go_enter Tryz.func73, Tryz.ntmps73
  go_wp2_with fail
  refine cR.mono ?_
  rintro e w2 ⟨rfl, hb⟩
  go_wp2_with fail
  go_ret
  refine ⟨ret_str ?_, hb⟩
  rw [← hfin]
  exact L_ext (by rw [L_add, L_add]; rfl)

end Go.Proofs.YtknfhphhcnbndaaGreatDoor.Q

namespace Go.Proofs.YtknfhphhcnbndaaGreatDoor.Q
open Go.RowKit

set_option maxHeartbeats 2000000 in
set_option maxRecDepth 100000 in
theorem quote2_any (s : ByteArray) (w : World) (hT : Tab w) (hs : s.size ≤ 1000000) :
    Calls Tryz.prog 33 #[.int .i64 2, .string s] w fun e w' => e = .returned (.string (T (bt (L s)))) ∧ Below w.heap.size w w' := by
  have c2 := between_any s w hT hs
  go_enter Tryz.func33, Tryz.ntmps33
  go_wp2_with fail
  refine c2.mono ?_
  rintro e w2 ⟨rfl, hb⟩
  go_wp2_with fail
  go_ret
  exact ⟨rfl, hb⟩
end Go.Proofs.YtknfhphhcnbndaaGreatDoor.Q

namespace Go.Proofs.YtknfhphhcnbndaaGreatDoor.Z
open Go.Proofs.YtknfhphhcnbndaaGreatDoor.A
open Go.Proofs.YtknfhphhcnbndaaGreatDoor.B
open Go.RowKit

theorem runM_riZ : ∀ (cs : List V.Chg) (M : List V.Nd), V.RI M → V.DevInv M → V.RI (V.runM cs M)
  | [], M, h, _ => h
  | c :: r, M, h, hd => runM_riZ r (V.doM M c) (h.do_ hd) (V.devInv_do hd)
theorem runM_duZ : ∀ (cs : List V.Chg) (M : List V.Nd), V.DU M → V.DU (V.runM cs M)
  | [], M, h => h
  | c :: r, M, h => runM_duZ r (V.doM M c) (V.du_do h)
theorem runM_tgtZ : ∀ (cs : List V.Chg) (M : List V.Nd), V.TgtM M → (∀ c ∈ cs, c.text.size ≤ 5000) → V.TgtM (V.runM cs M)
  | [], M, h, _ => h
  | c :: r, M, h, hc => runM_tgtZ r (V.doM M c) (V.tgt_do h (hc c (List.mem_cons_self ..))) (fun x hx => hc x (List.mem_cons_of_mem _ hx))
theorem few_textZ {cs : List V.Chg} (h : V.FewL cs) (hl : cs.length ≤ 400) : ∀ c ∈ cs, c.text.size ≤ 5000 := fun c hc => by
  obtain ⟨k, hk, e⟩ := List.getElem_of_mem hc
  exact (h k c (by omega) (by rw [← e]; exact List.getElem?_eq_getElem hk)).2
theorem real_run (cs : List V.Chg) (hl : cs.length ≤ 400) (hf : V.FewL cs) : RealOk (V.runM cs V.newM) := by
  have hs := V.runM_small cs V.newM 0 V.new_small
  refine ⟨V.runM_pos cs V.newM (by decide), ?_, V.small_fewE' hs (by omega), V.tgt_link (runM_tgtZ cs V.newM V.tgt_new (few_textZ hf hl)), runM_riZ cs V.newM V.ri_new V.devInv_new, runM_duZ cs V.newM V.du_new⟩
  have := hs.1
  omega
theorem two_of {α : Type} {l : List α} (h : l.length = 2) : ∃ a b, l = [a, b] := by
  match l, h with
  | [a, b], _ => exact ⟨a, b, rfl⟩
/-- What quotes a message's name. -/
def qZ (s : ByteArray) : ByteArray := Q.T (Q.bt (Q.L s))
theorem qZ_size (s : ByteArray) : (qZ s).size ≤ 7 * s.size + 2 := by
  have := Q.bt_len (Q.L s)
  rw [Q.L_len] at this
  unfold qZ
  rw [← Q.L_len]
  exact Nat.le_trans this (by omega)
theorem qZ_at {w : World} (h : Q.Tab w) : QAt w.heap.size qZ w := fun X s hX hs => Q.quote2_any s X (h.keep hX) hs
theorem of_same {M : List V.Nd} {x s t : ByteArray} {n m er fr : Int} (h : OfO M 0 0 x s n er) (k : OfO M 0 0 x t m fr) (he : er ≠ 0) : fr = er := by
  have hf : fr ≠ 0 := fun hf => by
    rcases h.1 with ⟨q, _⟩ | ⟨_, _, h1⟩
    · exact he q
    · rcases k.1 with ⟨_, k1, _, ns, k2, _⟩ | ⟨q, _⟩
      · rcases h1 with h1 | h1
        · exact h1 k1
        · exact h1 ns k2
      · exact q hf
  exact V.ofE_det (k.2 hf) (h.2 he)
theorem st_msg (qf : ByteArray → ByteArray) (x : ByteArray) (er : Int) : (ByteArray.empty ++ msgT qf nmR x er).toList.isEmpty = false := by
  cases h : (ByteArray.empty ++ msgT qf nmR x er).toList.isEmpty with
  | false => rfl
  | true =>
    have h1 := congrArg List.length (List.isEmpty_iff.1 h)
    rw [Lib.toList_data] at h1
    have h2 : (ByteArray.empty ++ msgT qf nmR x er).size = 0 := by
      have : (ByteArray.empty ++ msgT qf nmR x er).data.toList.length = (ByteArray.empty ++ msgT qf nmR x er).size := by simp
      rw [← this, h1]
      rfl
    rw [app_size', msg_size] at h2
    omega
/-- The root and a wrong one. -/
theorem goes_one {M : List V.Nd} {qf : ByteArray → ByteArray} {x t : ByteArray} {n er : Int} {s : St} (hr : V.RI M) (hx : OfO M 0 0 x t n er) (he : er ≠ 0) (h : RealW M 0 0 qf [⟨#[47]⟩, x] s) : s = ⟨⟨#[47, 10]⟩, ByteArray.empty ++ msgT qf nmR x er, 1⟩ := by
  obtain ⟨rs, h1, h2, rfl⟩ := h
  obtain ⟨r, q, rfl⟩ : ∃ r q, rs = [r, q] := two_of h1
  obtain ⟨n1, h3⟩ := h2 0 ⟨#[47]⟩ r rfl rfl
  obtain ⟨n2, h4⟩ := h2 1 x q rfl rfl
  have hw := walk_slash hr 0 0
  obtain ⟨e1, e2⟩ := root_of h3 hr (by rw [hw]) (by rw [hw]; rfl) (by rw [hw]; rfl)
  have e3 := of_same hx h4 he
  obtain ⟨r1, r2⟩ := r
  obtain ⟨q1, q2⟩ := q
  dsimp only at e1 e2 e3
  subst e1 e2 e3
  show stepE qf nmR false (stepE qf nmR false _ _ _) x (q1, q2) = _
  unfold stepE
  rw [if_neg he]
  rfl
/-- A wrong one and the root. -/
theorem goes_two {M : List V.Nd} {qf : ByteArray → ByteArray} {x t : ByteArray} {n er : Int} {s : St} (hr : V.RI M) (hx : OfO M 0 0 x t n er) (he : er ≠ 0) (h : RealW M 0 0 qf [x, ⟨#[47, 46]⟩] s) : s = ⟨⟨#[47, 10]⟩, ByteArray.empty ++ msgT qf nmR x er, 1⟩ := by
  obtain ⟨rs, h1, h2, rfl⟩ := h
  obtain ⟨q, r, rfl⟩ : ∃ r q, rs = [r, q] := two_of h1
  obtain ⟨n1, h3⟩ := h2 1 ⟨#[47, 46]⟩ r rfl rfl
  obtain ⟨n2, h4⟩ := h2 0 x q rfl rfl
  have hw := walk_point hr 0
  obtain ⟨e1, e2⟩ := root_of h3 hr (by rw [hw]) (by rw [hw]; rfl) (by rw [hw]; rfl)
  have e3 := of_same hx h4 he
  obtain ⟨r1, r2⟩ := r
  obtain ⟨q1, q2⟩ := q
  dsimp only at e1 e2 e3
  subst e1 e2 e3
  show stepE qf nmR false (stepE qf nmR false ⟨ByteArray.empty, ByteArray.empty, 0⟩ x (q1, q2)) ⟨#[47, 46]⟩ (⟨#[47]⟩, 0) = _
  unfold stepE
  rw [if_neg he]
  rfl
theorem three_txt {w : World} {s t u : ByteArray} : TxtL (w.alloc (.cells #[.string s, .string t, .string u] 9)) (some ⟨w.heap.size, 0, none⟩) [s, t, u] := .inr ⟨w.heap.size, 0, rfl, by simp, fun i x hx j v hj => by
  obtain rfl : j = 0 := by
    have := (List.getElem?_eq_some_iff.1 hj).1
    simp [txC] at this
    exact this
  obtain rfl : v = .string x := by simpa [txC] using hj.symm
  rw [cell_of_row _ _ _ _ _ _ (heap_alloc_new _ _)]
  match i, hx with
  | 0, hx => simp at hx; subst hx; rfl
  | 1, hx => simp at hx; subst hx; rfl
  | 2, hx => simp at hx; subst hx; rfl
  | i + 3, hx => simp at hx⟩
/-- A run of realpath with two operands. -/
theorem twoRun_any {M : List V.Nd} {p : Nat} (x y : ByteArray) (v0 w : World) (hf : V.Has v0 p M w) (ht : P.Tab w) (hq : Q.Tab w) (hm : MaxT w) (hO : RealOk M) (hx : ∀ z ∈ [x, y], z.size ≤ 1000) (hx2 : ∀ z ∈ [x, y], ∀ c r, listB z = c :: r → c ≠ 45) :
    Calls Tryz.prog 23 #[.pointer (some ⟨p, 0, none⟩), .agg #[.int .i64 0, .int .i64 0], .agg #[.int .i64 0, .int .i64 0, .int .i64 0], .slice (some ⟨w.heap.size, 0, none⟩) 3 3] (w.alloc (.cells #[.string nmR, .string x, .string y] 9)) fun e w' => ∃ s : St, e = .returned (.tuple #[.string s.out, .string s.err, .int .i64 s.st]) ∧ RealW M 0 0 qZ [x, y] s ∧ Below w.heap.size w w' := by
  have hb : Below w.heap.size w (w.alloc (.cells #[.string nmR, .string x, .string y] 9)) := (Below.refl _ _).alloc (Nat.le_refl _) _
  refine (realRun_any (u := 0) (gi := 0) (wd := 0) (now := 0) (off := 0) [x, y] [x, y] _ 3 v0 _ (hf.keep hb) (ht.keep hb) (hm.keep hb) hO three_txt ⟨Nat.le_refl 3, by unfold maxLen; omega, fun h => by cases h⟩ (by simp) hx (read_operands [x, y] hx2) (by simp) (by simp) hx qZ ?_).mono ?_
  · rintro -
    exact ⟨qZ_at (hq.keep hb), fun s hs => by have := qZ_size s; omega⟩
  · rintro e w' ⟨s, rfl, h1, h2⟩
    exact ⟨s, rfl, h1, hb.trans (h2.mono hb.size)⟩
theorem pair_all {P : ByteArray → Prop} {x y : ByteArray} (hx : P x) (hy : P y) : ∀ z ∈ [x, y], P z := fun z hz => by
  simp at hz
  rcases hz with rfl | rfl
  · exact hx
  · exact hy
theorem first_byte {x : ByteArray} (h0 : 0 < x.size) {c : UInt8} {r : List UInt8} (e : listB x = c :: r) : x[0] = c := by
  unfold listB at e
  have h1 : x.data[0]? = some c := by rw [← Array.getElem?_toList, e]; rfl
  obtain ⟨h3, h4⟩ := Array.getElem?_eq_some_iff.1 h1
  exact h4
/-- What is asked of the input, that the law goes on. -/
def GoesOk (cs : List V.Chg) (x : ByteArray) : Prop := V.FewL cs ∧ cs.length ≤ 20 ∧ x.size ≤ 100 ∧ ∀ c r, listB x = c :: r → c ≠ 45
set_option maxRecDepth 100000 in
set_option maxHeartbeats 16000000 in
theorem goes_any (cs : List V.Chg) (a : Option Addr) (cap : Nat) (x : ByteArray) (w : World) (H : V.IsChgs w a cs) (ht : P.Tab w) (hq : Q.Tab w) (hm : MaxT w) (hl : cs.length ≤ 9223372036854775807) (hw : ∀ c ∈ cs, V.WideC c) (hx : x.size ≤ 9223372036854775807) :
    Calls Tryz.prog 12 #[.slice a cs.length cap, .string x] w fun e w' => e = .returned (.bool true) ∧ Below w.heap.size w w' := by
  have HFw := Lib.hid (fun X (hb : Below w.heap.size w X) => V.few_any cs a cap 20 X (H.keep hb) hl (fun c hc => ⟨(hw c hc).name, (hw c hc).text⟩))
  have HMd := Lib.hid (fun (X : World) (hb : Below w.heap.size w X) (h4 : cs.length ≤ 400) (hf : V.FewL cs) => V.made_any cs a cap X (H.keep hb) h4 hf (fun c hc => ⟨(hw c hc).lo, (hw c hc).hi⟩))
  have HAw := Lib.hid (fun (X : World) (hb : Below w.heap.size w X) => awakeTop_any X (ht.keep hb) (hm.keep hb))
  have HTt := Lib.hid (fun (X : World) (hb : Below w.heap.size w X) => ht.keep hb)
  have HTq := Lib.hid (fun (X : World) (hb : Below w.heap.size w X) => hq.keep hb)
  have HTm := Lib.hid (fun (X : World) (hb : Below w.heap.size w X) => hm.keep hb)
  clear H ht hq hm hw
  go_enter Tryz.func12, Tryz.ntmps12
  go_upto_region 1 with fail
  go_cut [37] from 16 to 96 (fun v wx => ∃ b : Bool, v = .bool b ∧ (b = false → GoesOk cs x) ∧ Hid (Below w.heap.size w wx))
  case first =>
    go_wp2_with fail
    refine (HAw.out _ (Below.refl _ _)).mono ?_
    rintro e w1 ⟨rfl, hb1⟩
    have HB1 := Lib.hid hb1
    clear hb1
    go_wp2_with fail
    refine (HFw.out _ HB1.out).mono ?_
    rintro e w3 ⟨b, rfl, hb, hw3⟩
    have HBb := Lib.hid hb
    subst hw3
    clear hb HFw HAw HMd HTt HTq HTm
    cases b with
    | false =>
      go_wp2_with fail
      go_meet
      exact ⟨true, rfl, fun h => (by cases h), HB1⟩
    | true =>
      obtain ⟨hfl, hln⟩ := HBb.out.1 rfl
      have HFl := Lib.hid hfl
      clear hfl HBb
      by_cases h1 : 100 < x.size
      · have d1 : decide ((100 : Int) < (x.size : Int)) = true := decide_eq_true (by omega)
        go_wp2_with fail
        go_meet
        exact ⟨true, rfl, fun h => (by cases h), HB1⟩
      · have d1 : decide ((100 : Int) < (x.size : Int)) = false := decide_eq_false (by omega)
        by_cases h0 : 0 < x.size
        · have d2 : decide ((0 : Int) < (x.size : Int)) = true := decide_eq_true (by omega)
          have HNo := Lib.hid (show ((x[0].toNat : Int) == 45) = false → ∀ c r, listB x = c :: r → c ≠ 45 from fun h c r e e2 => by
            rw [first_byte h0 e, e2] at h
            exact absurd h (by decide))
          go_wp2_with fail
          go_meet
          exact ⟨_, rfl, fun h => ⟨HFl.out, by omega, by omega, HNo.out h⟩, HB1⟩
        · have d2 : decide ((0 : Int) < (x.size : Int)) = false := decide_eq_false (by omega)
          have HNo := Lib.hid (show ∀ c r, listB x = c :: r → c ≠ 45 from fun c r h => by
            have h3 : (listB x).length = x.size := by unfold listB; simp
            rw [h, List.length_cons] at h3
            omega)
          go_wp2_with fail
          go_meet
          exact ⟨false, rfl, fun _ => ⟨HFl.out, by omega, by omega, HNo.out⟩, HB1⟩
  case rest =>
    obtain ⟨b, rfl, hg, HB1⟩ := hcut
    have HGd := Lib.hid hg
    clear hg HFw
    generalize wc = w1 at HB1 ⊢
    cases b with
    | true =>
      go_wp2_with fail
      refine (HAw.out _ HB1.out).mono ?_
      rintro e w4 ⟨rfl, hb4⟩
      have HB4 := Lib.hid (below_two HB1.out hb4)
      clear hb4
      go_wp2_with fail
      go_ret
      exact ⟨rfl, HB4.out⟩
    | false =>
      obtain ⟨hfl, hl6, hsz, hno⟩ := HGd.out rfl
      have HO := Lib.hid (real_run cs (by omega) hfl)
      have HM := Lib.hid (HMd.out w1 HB1.out (by omega) hfl)
      have HNo := Lib.hid hno
      clear HMd HGd HAw hfl hno
      generalize V.runM cs V.newM = M at HM HO
      go_upto_region 3 with fail
      go_wp2_with fail
      refine HM.out.mono ?_
      rintro e w6 ⟨p, r, L, rfl, T6, hL⟩
      have HT6 := Lib.hid T6
      have HN6 := Lib.hid (V.rs_one T6.rs)
      clear T6 HM
      unfold V.rvV
      go_upto_region 4 with (refine wpList_store_row rfl 31 (.tmp 6) (.tmp 43) rfl w6.heap.size #[r.n, r.l, r.c, r.d, r.a, r.f] rfl rfl 31 V.nilsR (heap_alloc_new _ _) V.sizeRef rfl HN6.out ?_; rw [World.setRow_alloc_new])
      have HA7 := Lib.hid (show Below w6.heap.size w6 (w6.alloc (.cells #[r.n, r.l, r.c, r.d, r.a, r.f] 31)) from (Below.refl _ _).alloc (Nat.le_refl _) _)
      generalize w6.alloc (.cells #[r.n, r.l, r.c, r.d, r.a, r.f] 31) = w7 at HA7 ⊢
      have HH7 := Lib.hid (HT6.out.keep HA7.out).fs
      have HB7 := Lib.hid (show Below w.heap.size w w7 from below_two HB1.out (HT6.out.fs.below.trans (HA7.out.mono HT6.out.fs.below.size)))
      clear HT6 HA7 HN6 HB1
      have HOf := Lib.hid (ofO_any (u := 0) (gi := 0) x _ w7 HH7.out (HTt.out _ HB7.out) HO.out (by omega))
      have HR1 := Lib.hid (fun (X : World) (hb : Below w7.heap.size w7 X) => twoRun_any ⟨#[47]⟩ x _ X (HH7.out.keep hb) (HTt.out _ (below_two HB7.out hb)) (HTq.out _ (below_two HB7.out hb)) (HTm.out _ (below_two HB7.out hb)) HO.out (pair_all (P := fun z => z.size ≤ 1000) (by decide) (by omega)) (pair_all (P := fun z => ∀ c r, listB z = c :: r → c ≠ 45) (fun c r h => by cases h; decide) HNo.out))
      have HR2 := Lib.hid (fun (X : World) (hb : Below w7.heap.size w7 X) => twoRun_any x ⟨#[47, 46]⟩ _ X (HH7.out.keep hb) (HTt.out _ (below_two HB7.out hb)) (HTq.out _ (below_two HB7.out hb)) (HTm.out _ (below_two HB7.out hb)) HO.out (pair_all (P := fun z => z.size ≤ 1000) (by omega) (by decide)) (pair_all (P := fun z => ∀ c r, listB z = c :: r → c ≠ 45) HNo.out (fun c r h => by cases h; decide)))
      have HRi := Lib.hid HO.out.ri
      clear HTt HTq HTm HO HH7 HNo
      unfold nmR at HR1 HR2
      go_wp2_with fail
      refine HOf.out.mono ?_
      rintro e w8 ⟨t, n, er, rfl, ⟨ho, _⟩, hb8⟩
      have HOo := Lib.hid ho
      have HB8 := Lib.hid hb8
      clear ho hb8 HOf
      by_cases he : er = 0
      · subst he
        go_wp2_with fail
        go_ret
        exact ⟨rfl, below_two HB7.out HB8.out⟩
      · have de : (er == 0) = false := beq_eq_false_iff_ne.2 he
        have HE := Lib.hid he
        clear he
        go_wp2_with fail
        refine (HR1.out _ HB8.out).mono ?_
        rintro e w9 ⟨s, rfl, hs, hb9⟩
        have e1 := goes_one HRi.out HOo.out HE.out hs
        subst e1
        have HB9 := Lib.hid (below_two HB8.out hb9)
        clear hs hb9 HR1
        have HMs := Lib.hid (st_msg qZ x er)
        have HS2 := Lib.hid (fun (s : St) (h : RealW M 0 0 qZ [x, ⟨#[47, 46]⟩] s) => goes_two HRi.out HOo.out HE.out h)
        clear HE HOo HRi
        generalize ByteArray.empty ++ msgT qZ nmR x er = m at HMs HS2 ⊢
        dsimp only
        go_wp2_with fail
        refine (HR2.out _ HB9.out).mono ?_
        rintro e w10 ⟨s, rfl, hs, hb10⟩
        have e1 := HS2.out s hs
        subst e1
        have HBa := Lib.hid (below_two HB7.out (below_two HB9.out hb10))
        clear hs hb10 HR2 HS2
        dsimp only
        have d5 := HMs.out
        have d6 : (m.toList == m.toList) = true := beq_self_eq_true _
        have d7 : ((⟨#[47, 10]⟩ : ByteArray).toList == (⟨#[47, 10]⟩ : ByteArray).toList) = true := beq_self_eq_true _
        go_wp2_with fail
        go_ret
        exact ⟨rfl, HBa.out⟩
end Go.Proofs.YtknfhphhcnbndaaGreatDoor.Z
