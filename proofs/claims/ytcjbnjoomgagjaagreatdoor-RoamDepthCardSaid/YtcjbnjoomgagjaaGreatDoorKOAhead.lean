/-
  A name's tokens, by places. Conditions: each fact's own.
  What the reference's Tokens returns. Conditions: a text of at most 60000 bytes.
  What the reference's Version returns. Conditions: texts of at most 60000 bytes.
  What the reference's Compare returns. Conditions: names of at most 60000 bytes.
  A slice of keys, as it lies in memory; what the reference's Few returns. Conditions: what came in lies in memory.
  What the reference's ahead returns. Conditions: the keys lie in memory, with names of at most 60000 bytes.
  The program's way to compare names, in plain lists: bytes, extensions, tokens. Conditions: each fact's own.
-/
import Derived.Test.YtcjbnjoomgagjaaGreatDoorKORefA
import Derived.Deep.AppendLies
import Derived.Deep.RegionLaw
import Derived.Lib.Bytealg
import Derived.Lib.TrimByte
import Derived.Lib.LastIndexByte
set_option linter.unusedVariables false
namespace Go.Proofs.YtcjbnjoomgagjaaGreatDoor.O
open Go.Proofs.YtcjbnjoomgagjaaGreatDoor.B
open Go.RowKit

theorem toks_nil : toks [] = [] := rfl
theorem toks_cons (b : UInt8) (r : List UInt8) : toks (b :: r) = if digB b = true then numT ((b :: r).takeWhile digB) :: toks ((b :: r).dropWhile digB) else [126, b] :: toks r := by
  unfold toks
  rw [List.length_cons, tokGo]
  by_cases hb : digB b = true
  · rw [if_pos hb, if_pos hb]
    have hd : ((b :: r).dropWhile digB).length ≤ r.length := by
      rw [List.dropWhile_cons, if_pos hb]
      exact (List.dropWhile_sublist _).length_le
    rw [tokGo_more r.length ((b :: r).dropWhile digB).length _ hd (Nat.le_refl _)]
  · rw [if_neg hb, if_neg hb]
theorem span_take {p : UInt8 → Bool} : ∀ (D : List UInt8) (n : Nat), n ≤ D.length → (∀ j x, j < n → D[j]? = some x → p x = true) → (∀ x, D[n]? = some x → p x = false) → D.takeWhile p = D.take n ∧ D.dropWhile p = D.drop n
  | [], n, hn, _, _ => by
    have : n = 0 := by simpa using hn
    subst this
    exact ⟨rfl, rfl⟩
  | b :: r, 0, _, _, h2 => by
    have hb := h2 b rfl
    rw [List.takeWhile_cons, List.dropWhile_cons, hb]
    exact ⟨rfl, rfl⟩
  | b :: r, n + 1, hn, h1, h2 => by
    have hb := h1 0 b (by omega) rfl
    have ih := span_take r n (by simpa using hn) (fun j x hj hx => h1 (j + 1) x (by omega) (by simpa using hx)) (fun x hx => h2 x (by simpa using hx))
    rw [List.takeWhile_cons, List.dropWhile_cons, hb]
    exact ⟨by rw [if_pos rfl, ih.1]; rfl, by rw [if_pos rfl, ih.2]; rfl⟩
/-- Between two places of a text. -/
def seg (l : List UInt8) (a b : Nat) : List UInt8 := (l.drop a).take (b - a)
theorem seg_len {l : List UInt8} {a b : Nat} (hab : a ≤ b) (hb : b ≤ l.length) : (seg l a b).length = b - a := by
  unfold seg
  rw [List.length_take, List.length_drop]
  omega
theorem seg_at {l : List UInt8} {a b j : Nat} (hj : j < b - a) : (seg l a b)[j]? = l[a + j]? := by
  unfold seg
  rw [List.getElem?_take, if_pos hj, List.getElem?_drop]
theorem seg_drop {l : List UInt8} {a b c : Nat} (hab : a ≤ b) : (seg l a c).drop (b - a) = seg l b c := by
  unfold seg
  rw [List.drop_take, List.drop_drop]
  congr 1
  · omega
  · congr 1; omega
theorem ext_seg (s : ByteArray) (a b : Nat) (hab : a ≤ b) (hb : b ≤ s.size) : s.extract a b = mkB (seg s.data.toList a b) := by
  apply ByteArray.ext
  unfold mkB seg
  rw [ByteArray.data_extract]
  apply Array.ext'
  simp
/-- A number's token, by its three places: where it begins, where its noughts end, where it ends. -/
theorem tok_num {l : List UInt8} {i z k : Nat} {b : UInt8} (hb : l[i]? = some b) (hd : digB b = true) (hiz : i ≤ z) (hzk : z ≤ k) (hk : k ≤ l.length) (h1 : ∀ j x, i ≤ j → j < k → l[j]? = some x → digB x = true) (h2 : ∀ x, l[k]? = some x → digB x = false)
    (h3 : ∀ j x, i ≤ j → j < z → l[j]? = some x → x = 48) (h4 : z < k → ∀ x, l[z]? = some x → x ≠ 48) :
    toks (l.drop i) = (33 :: UInt8.ofNat ((k - z) / 256) :: UInt8.ofNat ((k - z) % 256) :: seg l z k) :: toks (l.drop k) := by
  have hi : i < l.length := (List.getElem?_eq_some_iff.1 hb).1
  have hs := span_take (p := digB) (l.drop i) (k - i) (by rw [List.length_drop]; omega)
    (fun j x hj hx => h1 (i + j) x (by omega) (by omega) (by rwa [List.getElem?_drop] at hx))
    (fun x hx => h2 x (by rw [List.getElem?_drop] at hx; rwa [show i + (k - i) = k by omega] at hx))
  have hz := span_take (p := (· == 48)) (seg l i k) (z - i) (by rw [seg_len (by omega) hk]; omega)
    (fun j x hj hx => by
      rw [seg_at (by omega)] at hx
      exact beq_iff_eq.2 (h3 (i + j) x (by omega) (by omega) hx))
    (fun x hx => by
      have hlt : z - i < (seg l i k).length := (List.getElem?_eq_some_iff.1 hx).1
      rw [seg_len (by omega) hk] at hlt
      rw [seg_at (by omega), show i + (z - i) = z by omega] at hx
      exact beq_eq_false_iff_ne.2 (h4 (by omega) x hx))
  have e1 : (l.drop i).takeWhile digB = seg l i k := hs.1
  have e2 : (l.drop i).dropWhile digB = l.drop k := by rw [hs.2, List.drop_drop]; congr 1; omega
  have hc := drop_at hb
  have ht := toks_cons b (l.drop (i + 1))
  rw [← hc, if_pos hd, e1, e2] at ht
  rw [ht]
  unfold numT
  rw [hz.2, seg_drop hiz, seg_len hzk hk]
theorem tok_byte {l : List UInt8} {i : Nat} {b : UInt8} (hb : l[i]? = some b) (hd : digB b = false) : toks (l.drop i) = [126, b] :: toks (l.drop (i + 1)) := by
  rw [drop_at hb, toks_cons, if_neg (by rw [hd]; decide)]

theorem tokGo_len : ∀ (n : Nat) (l : List UInt8), (tokGo n l).length ≤ l.length ∧ ∀ t ∈ tokGo n l, t.length ≤ l.length + 3
  | 0, l => ⟨Nat.zero_le _, fun t h => by cases h⟩
  | n + 1, [] => ⟨Nat.le_refl _, fun t h => by cases h⟩
  | n + 1, b :: r => by
    rw [tokGo]
    by_cases hb : digB b = true
    · rw [if_pos hb]
      have hd : ((b :: r).dropWhile digB).length ≤ r.length := by
        rw [List.dropWhile_cons, if_pos hb]
        exact (List.dropWhile_sublist _).length_le
      obtain ⟨h1, h2⟩ := tokGo_len n ((b :: r).dropWhile digB)
      refine ⟨by rw [List.length_cons, List.length_cons]; omega, fun t ht => ?_⟩
      rcases List.mem_cons.1 ht with q | q
      · rw [q]
        unfold numT
        have h3 := (List.dropWhile_sublist (l := (b :: r).takeWhile digB) (· == 48)).length_le
        have h4 := (List.takeWhile_sublist (l := b :: r) digB).length_le
        simp only [List.length_cons] at h3 h4 ⊢
        omega
      · have := h2 t q
        rw [List.length_cons]
        omega
    · rw [if_neg hb]
      obtain ⟨h1, h2⟩ := tokGo_len n r
      refine ⟨by rw [List.length_cons, List.length_cons]; omega, fun t ht => ?_⟩
      rcases List.mem_cons.1 ht with q | q
      · rw [q]
        show 2 ≤ _
        omega
      · have := h2 t q
        rw [List.length_cons]
        omega
theorem toks_len (l : List UInt8) : (toks l).length ≤ l.length ∧ ∀ t ∈ toks l, t.length ≤ l.length + 3 := tokGo_len _ l
theorem lex_step {α : Type} {c : α → α → Int} {A B : List α} {k : Nat} {x y : α} (hx : A[k]? = some x) (hy : B[k]? = some y) : lexC c (A.drop k) (B.drop k) = if c x y = 0 then lexC c (A.drop (k + 1)) (B.drop (k + 1)) else c x y := by
  rw [drop_at hx, drop_at hy, lexC]
theorem lex_end {α : Type} {c : α → α → Int} {A B : List α} {k : Nat} (h : A.length ≤ k ∨ B.length ≤ k) (ha : k ≤ A.length) (hb : k ≤ B.length) : lexC c (A.drop k) (B.drop k) = if A.length < B.length then -1 else if B.length < A.length then 1 else 0 := by
  rcases h with h | h
  · rw [List.drop_of_length_le h]
    by_cases q : A.length < B.length
    · rw [if_pos q]
      obtain ⟨y, hy⟩ : ∃ y, B[k]? = some y := ⟨_, List.getElem?_eq_getElem (by omega)⟩
      rw [drop_at hy]
      rfl
    · rw [if_neg q, if_neg (by omega), List.drop_of_length_le (by omega)]
      rfl
  · rw [List.drop_of_length_le h]
    by_cases q : B.length < A.length
    · rw [if_neg (by omega), if_pos q]
      obtain ⟨y, hy⟩ : ∃ y, A[k]? = some y := ⟨_, List.getElem?_eq_getElem (by omega)⟩
      rw [drop_at hy]
      rfl
    · rw [if_neg (by omega), if_neg q, List.drop_of_length_le (by omega)]
      rfl
end Go.Proofs.YtcjbnjoomgagjaaGreatDoor.O

namespace Go.Proofs.YtcjbnjoomgagjaaGreatDoor.O
open Go.Proofs.YtcjbnjoomgagjaaGreatDoor.B
open Go.RowKit

theorem infoStr : (Tryz.prog.info? 9).map (fun i => (i.zero, i.size, i.bytes)) = some (some (.string ⟨#[]⟩), 1, 16) := by kernel_rfl
def TokRel (s : ByteArray) (w : World) (v3 v4 : Value) (wr : World) : Prop :=
  ∃ (i : Nat) (T : List (List UInt8)), v4 = .int .i64 (i : Int) ∧ i ≤ s.size ∧ T.length ≤ i ∧ Hid (T ++ toks (s.data.toList.drop i) = toks s.data.toList) ∧ Hid (wr.ownsRow w.heap.size 9 1 v3 T.length (strs (T.map mkB))) ∧ Hid (Below w.heap.size w wr)
def RunRel (s : ByteArray) (i : Nat) (w0 : World) (v5 : Value) (wr : World) : Prop :=
  ∃ k : Nat, v5 = .int .i64 (k : Int) ∧ i ≤ k ∧ k ≤ s.size ∧ Hid (∀ j x, i ≤ j → j < k → s.data.toList[j]? = some x → digB x = true) ∧ Hid (w0 = wr)
def NulRel (s : ByteArray) (i k : Nat) (w0 : World) (v4 : Value) (wr : World) : Prop :=
  ∃ z : Nat, v4 = .int .i64 (z : Int) ∧ i ≤ z ∧ z ≤ k ∧ Hid (∀ j x, i ≤ j → j < z → s.data.toList[j]? = some x → x = 48) ∧ Hid (w0 = wr)
theorem ext_one {s : ByteArray} {k : Nat} (h : k < s.size) : s.extract k (k + 1) = mkB [s[k]'h] := by
  rw [ext_seg s k (k + 1) (by omega) (by omega)]
  unfold seg
  rw [drop_at (list_at h), Nat.add_sub_cancel_left]
  rfl
theorem tok_news (wr : World) (o : Obj) (X : Value) (e : TypeId) : ∀ (j : Nat) u, [X][j]? = some u → (((wr.alloc o).drew).alloc (.cells #[X] e)).cell? ((⟨wr.heap.size + 1, 0, none⟩ : Addr).add j) = some u := by
  have hb : (((wr.alloc o).drew).alloc (.cells #[X] e)).heap[wr.heap.size + 1]? = some (.cells #[X] e (0, 0)) := by
    have := heap_alloc_new ((wr.alloc o).drew) (.cells #[X] e)
    rwa [show ((wr.alloc o).drew).heap.size = wr.heap.size + 1 from by simp] at this
  exact World.news_of_block hb
theorem u8_of {n : Nat} (h : n < 256) : IntKind.u8.wrap (n : Int) = ((UInt8.ofNat n).toNat : Int) := by
  rw [UInt8.toNat_ofNat', Nat.mod_eq_of_lt h]
  exact IntWalk.u8_in _ (by omega)
theorem strs_snoc (T : List (List UInt8)) (x : ByteArray) (t : List UInt8) (h : x = mkB t) : strs ((T ++ [t]).map mkB) = strs (T.map mkB) ++ [.string x] := by
  unfold strs
  rw [List.map_append, List.map_append, h]
  rfl

end Go.Proofs.YtcjbnjoomgagjaaGreatDoor.O

namespace Go.Proofs.YtcjbnjoomgagjaaGreatDoor.O
open Go.Proofs.YtcjbnjoomgagjaaGreatDoor.B
open Go.RowKit

def VerRel (X Y : List (List UInt8)) (w w0 : World) (v : Value) (wr : World) : Prop :=
  ∃ k : Nat, k ≤ X.length ∧ k ≤ Y.length ∧ v = .int .i64 (k : Int) ∧ Hid (lexC lessL X Y = lexC lessL (X.drop k) (Y.drop k)) ∧ Hid (Below w.heap.size w wr) ∧ Hid (Below w0.heap.size w0 wr)
theorem strs_at {T : List (List UInt8)} {k : Nat} {t : List UInt8} (h : T[k]? = some t) : (strs (T.map mkB))[k]? = some (.string (mkB t)) := by
  unfold strs
  rw [List.getElem?_map, List.getElem?_map, h]
  rfl
end Go.Proofs.YtcjbnjoomgagjaaGreatDoor.O

namespace Go.Proofs.YtcjbnjoomgagjaaGreatDoor.O
open Go.Proofs.YtcjbnjoomgagjaaGreatDoor.B
open Go.RowKit

def kyL (k : Ky) : List Value := [.string k.name, .int .i64 k.size, .int .i64 k.time, .bool k.dir]
def kyV (k : Ky) : Value := .agg #[.string k.name, .int .i64 k.size, .int .i64 k.time, .bool k.dir]
theorem ext_len (l : List UInt8) : (extL l).length ≤ l.length := by
  unfold extL
  have : ∀ n, (extGo l n).length ≤ l.length := fun n => by
    induction n with
    | zero => exact Nat.zero_le _
    | succ n ih =>
      rw [extGo]
      split
      · rw [List.length_drop]; omega
      · exact ih
  exact this _
theorem same_symm {P : Program} {f : FuncId} {a : Array Value} {w : World} {v : Value} (h : Calls P f a w fun e w' => e = .returned v ∧ w = w') : Calls P f a w fun e w' => e = .returned v ∧ w' = w := h.mono fun e w' ⟨p, q⟩ => ⟨p, q.symm⟩
end Go.Proofs.YtcjbnjoomgagjaaGreatDoor.O

namespace Go.Proofs.YtcjbnjoomgagjaaGreatDoor.O
open Go.Proofs.YtcjbnjoomgagjaaGreatDoor.B
open Go.RowKit

/-- The slice at a holds these keys. -/
def IsKeys (w : World) (a : Option Addr) (l : List Ky) : Prop := l = [] ∨ ∃ g o, a = some ⟨g, o, none⟩ ∧ g < w.heap.size ∧ ∀ (k : Nat) (c : Ky), l[k]? = some c → w.rangeAt g (o + k * 4) (kyL c)
theorem IsKeys.keep {w w' : World} {a : Option Addr} {l : List Ky} (h : IsKeys w a l) (hb : Below w.heap.size w w') : IsKeys w' a l := by
  rcases h with h | ⟨g, o, h1, h0, h2⟩
  · exact .inl h
  · exact .inr ⟨g, o, h1, Nat.lt_of_lt_of_le h0 hb.size, fun k c hk j v hj => (hb.cell (p := ⟨g, _, none⟩) h0).trans (h2 k c hk j v hj)⟩
theorem IsKeys.at_ {w : World} {a : Option Addr} {l : List Ky} (h : IsKeys w a l) {k : Nat} {c : Ky} (hk : l[k]? = some c) : ∃ g o, a = some ⟨g, o, none⟩ ∧ g < w.heap.size ∧ w.rangeAt g (o + k * 4) (kyL c) := by
  rcases h with h | ⟨g, o, h1, h0, h2⟩
  · rw [h] at hk; simp at hk
  · exact ⟨g, o, h1, h0, h2 k c hk⟩
def FewK (l : List Ky) : Prop := ∀ (k : Nat) (c : Ky), k < 200 → l[k]? = some c → c.name.size ≤ 300
def FewKRel (l : List Ky) (w : World) (v : Value) (wr : World) : Prop := ∃ k : Nat, k ≤ l.length ∧ k ≤ 200 ∧ v = .int .i64 (k : Int) ∧ wr = w ∧ Hid (∀ (j : Nat) (c : Ky), j < k → l[j]? = some c → c.name.size ≤ 300)

end Go.Proofs.YtcjbnjoomgagjaaGreatDoor.O

namespace Go.Proofs.YtcjbnjoomgagjaaGreatDoor.O
open Go.Proofs.YtcjbnjoomgagjaaGreatDoor.B
open Go.RowKit

theorem getD_at {l : List Ky} {i : Nat} {x : Ky} (h : l[i]? = some x) : l.getD i noKy = x := by rw [List.getD_eq_getElem?_getD, h]; rfl
theorem ahead_dirs {o : Int} {rev dirs : Bool} {l : List Ky} {i k : Nat} {x y : Ky} (hx : l[i]? = some x) (hy : l[k]? = some y) (hd : dirs = true) (hn : x.dir ≠ y.dir) : aheadL (soC o rev dirs) l i k = x.dir := by
  unfold aheadL soC thenC dirC
  rw [getD_at hx, getD_at hy, hd]
  simp only [if_true]
  cases hxd : x.dir <;> cases hyd : y.dir
  · rw [hxd, hyd] at hn; exact absurd rfl hn
  · rfl
  · rfl
  · rw [hxd, hyd] at hn; exact absurd rfl hn
theorem ahead_same {o : Int} {rev dirs : Bool} {l : List Ky} {i k : Nat} {x y : Ky} (hx : l[i]? = some x) (hy : l[k]? = some y) (hd : dirs = true → x.dir = y.dir) : aheadL (soC o rev dirs) l i k = (decide ((if rev = true then -cmpK o x y else cmpK o x y) < 0) || (decide ((if rev = true then -cmpK o x y else cmpK o x y) = 0) && decide (i < k))) := by
  have e : soC o rev dirs x y = if rev = true then -cmpK o x y else cmpK o x y := by
    have h0 : dirC dirs x y = 0 := by
      unfold dirC
      split
      · rename_i q
        rw [hd q]
        exact cmpI_tot.self _
      · rfl
    unfold soC thenC
    rw [if_pos h0]
    unfold revC
    cases rev with
    | false => rfl
    | true => exact (cmpK_tot o).anti x y
  unfold aheadL
  rw [getD_at hx, getD_at hy, e]

theorem two_boxes' (w : World) (A B : Array Value) (e : TypeId) : ((w.alloc (.cells A e)).alloc (.cells B e)).heap[w.heap.size]? = some (.cells A e (0, 0)) ∧ ((w.alloc (.cells A e)).alloc (.cells B e)).heap[w.heap.size + 1]? = some (.cells B e (0, 0)) ∧ Below w.heap.size w ((w.alloc (.cells A e)).alloc (.cells B e)) := by
  refine ⟨?_, ?_, ((Below.refl _ _).alloc (Nat.le_refl _) _).alloc (by simp) _⟩
  · have h1 := heap_alloc_new w (.cells A e)
    have h2 : Below (w.heap.size + 1) (w.alloc (.cells A e)) ((w.alloc (.cells A e)).alloc (.cells B e)) := (Below.refl _ _).alloc (by simp) _
    exact (h2.block _ (by omega)).trans h1
  · have h1 := heap_alloc_new (w.alloc (.cells A e)) (.cells B e)
    rwa [show (w.alloc (.cells A e)).heap.size = w.heap.size + 1 from by simp] at h1
theorem two_boxes (w : World) (A B : Array Value) (e : TypeId) : (((w.alloc (.cells A e)).alloc (.cells B e)).drew).heap[w.heap.size]? = some (.cells A e (0, 0)) ∧ (((w.alloc (.cells A e)).alloc (.cells B e)).drew).heap[w.heap.size + 1]? = some (.cells B e (0, 0)) ∧ Below w.heap.size w (((w.alloc (.cells A e)).alloc (.cells B e)).drew) := by
  refine ⟨?_, ?_, (((Below.refl _ _).alloc (Nat.le_refl _) _).alloc (by simp) _).drew⟩
  · have h1 := heap_alloc_new w (.cells A e)
    have h2 : Below (w.heap.size + 1) (w.alloc (.cells A e)) ((w.alloc (.cells A e)).alloc (.cells B e)) := (Below.refl _ _).alloc (by simp) _
    exact (h2.block _ (by omega)).trans h1
  · have h1 := heap_alloc_new (w.alloc (.cells A e)) (.cells B e)
    rwa [show (w.alloc (.cells A e)).heap.size = w.heap.size + 1 from by simp] at h1
end Go.Proofs.YtcjbnjoomgagjaaGreatDoor.O

namespace Go.Proofs.YtcjbnjoomgagjaaGreatDoor.O
open Go.Proofs.YtcjbnjoomgagjaaGreatDoor.B
open Go.RowKit

theorem cmpB_is (a b : UInt8) : cmpB a b = if a < b then -1 else if b < a then 1 else 0 := by
  unfold cmpB cmpI
  simp only [UInt8.lt_iff_toNat_lt, Int.ofNat_lt]
theorem less_cons (a b : UInt8) (x y : List UInt8) : lessL (a :: x) (b :: y) = if cmpB a b = 0 then lessL x y else cmpB a b := rfl
theorem compare_less : ∀ a b : List UInt8, Lib.compareBytes a b = lessL a b
  | [], [] => rfl
  | [], _ :: _ => rfl
  | _ :: _, [] => rfl
  | a :: x, b :: y => by
    rw [Lib.compareBytes, compare_less x y, less_cons, cmpB_is]
    by_cases h1 : a < b
    · rw [if_pos h1, if_pos h1, if_neg (by decide)]
    · rw [if_neg h1, if_neg h1]
      by_cases h2 : b < a
      · rw [if_pos h2, if_pos h2, if_neg (by decide)]
      · rw [if_neg h2, if_neg h2, if_pos rfl]
theorem ext_last (s : ByteArray) : extL s.data.toList = if Lib.lastIndexByte s 46 < 1 then [] else s.data.toList.drop (Lib.lastIndexByte s 46).toNat := by
  have key : ∀ n, n < s.size → extGo s.data.toList n = if Lib.lastIdx s 46 (n + 1) < 1 then [] else s.data.toList.drop (Lib.lastIdx s 46 (n + 1)).toNat := by
    intro n
    induction n with
    | zero =>
      intro h
      rw [if_pos, extGo]
      unfold Lib.lastIdx
      split
      · decide
      · show (-1 : Int) < 1; decide
    | succ n ih =>
      intro h
      have h' : n + 1 < s.data.size := h
      have hx : s.data[n + 1]! = s[n + 1]'h := by
        rw [getElem!_pos s.data (n + 1) h']
        rfl
      rw [extGo, list_at h]
      by_cases q : ((s.data[n + 1]!).toNat : Int) = 46
      · rw [Lib.lastIdx_hit s 46 (n + 1) q, if_neg (show ¬ ((n + 1 : Nat) : Int) < 1 by omega), Int.toNat_natCast, if_pos]
        rw [hx] at q
        have q' : (s[n + 1]'h).toNat = 46 := by omega
        exact congrArg some (UInt8.toNat_inj.1 q')
      · rw [Lib.lastIdx_miss s 46 (n + 1) q, if_neg, ih (by omega)]
        intro z
        rw [hx] at q
        rw [Option.some.inj z] at q
        exact q rfl
  unfold extL Lib.lastIndexByte
  rw [size_list]
  by_cases h0 : s.size = 0
  · rw [h0]
    rfl
  · rw [key _ (by omega), show s.size - 1 + 1 = s.size from by omega]

/-! Tokens. -/
def noughts (d : List UInt8) : List UInt8 := d.dropWhile (· == 48)
theorem noughts_le (d : List UInt8) : (noughts d).length ≤ d.length := (List.dropWhile_sublist _).length_le
def numC (d e : List UInt8) : Int := if cmpI (noughts d).length (noughts e).length = 0 then lessL (noughts d) (noughts e) else cmpI (noughts d).length (noughts e).length
theorem cmpB_of (m n : Nat) (hm : m < 256) (hn : n < 256) : cmpB (UInt8.ofNat m) (UInt8.ofNat n) = cmpI m n := by
  unfold cmpB
  rw [UInt8.toNat_ofNat_of_lt' (by simpa using hm), UInt8.toNat_ofNat_of_lt' (by simpa using hn)]
theorem num_less (d e : List UInt8) (hd : d.length < 65536) (he : e.length < 65536) : lessL (numT d) (numT e) = numC d e := by
  have l1 := noughts_le d
  have l2 := noughts_le e
  unfold numT numC
  change lessL (33 :: UInt8.ofNat ((noughts d).length / 256) :: UInt8.ofNat ((noughts d).length % 256) :: noughts d) (33 :: UInt8.ofNat ((noughts e).length / 256) :: UInt8.ofNat ((noughts e).length % 256) :: noughts e) = _
  generalize noughts d = D at l1 ⊢
  generalize noughts e = E at l2 ⊢
  rw [less_cons, if_pos (by decide), less_cons, less_cons, cmpB_of _ _ (by omega) (by omega), cmpB_of _ _ (by omega) (by omega)]
  generalize D.length = m at l1 ⊢
  generalize E.length = n at l2 ⊢
  have c : ∀ a b : Nat, cmpI a b = if a < b then -1 else if b < a then 1 else 0 := fun a b => by unfold cmpI; simp only [Int.ofNat_lt]
  rw [c, c, c]
  by_cases h1 : m / 256 < n / 256
  · rw [if_pos h1, if_neg (by decide), if_pos (show m < n by omega), if_neg (by decide)]
  · rw [if_neg h1]
    by_cases h2 : n / 256 < m / 256
    · rw [if_pos h2, if_neg (by decide), if_neg (show ¬ m < n by omega), if_pos (show n < m by omega), if_neg (by decide)]
    · rw [if_neg h2, if_pos rfl]
      by_cases h3 : m % 256 < n % 256
      · rw [if_pos h3, if_neg (by decide), if_pos (show m < n by omega), if_neg (by decide)]
      · rw [if_neg h3]
        by_cases h4 : n % 256 < m % 256
        · rw [if_pos h4, if_neg (by decide), if_neg (show ¬ m < n by omega), if_pos (show n < m by omega), if_neg (by decide)]
        · rw [if_neg h4, if_pos rfl, if_neg (show ¬ m < n by omega), if_neg (show ¬ n < m by omega), if_pos rfl]
/-- What the program tells of two tokens. -/
def tokC : List UInt8 → List UInt8 → Int
  | x :: A, y :: B => if digB x = true then (if digB y = true then numC (x :: A) (y :: B) else -1) else if digB y = true then 1 else cmpB x y
  | _, _ => 0
def tkN (l : List UInt8) : Nat := (l.takeWhile digB).length
def tkK (l : List UInt8) : Nat := max (tkN l) 1
def tkT : List UInt8 → List UInt8
  | [] => []
  | b :: r => if digB b = true then numT ((b :: r).takeWhile digB) else [126, b]
theorem tkN_le (l : List UInt8) : tkN l ≤ l.length := (List.takeWhile_sublist _).length_le
theorem take_tk (l : List UInt8) : l.take (tkN l) = l.takeWhile digB ∧ l.drop (tkN l) = l.dropWhile digB := by
  unfold tkN
  have h := List.takeWhile_append_dropWhile (p := digB) (l := l)
  constructor
  · conv => lhs; rw [← h]
    rw [h]
    conv => lhs; arg 2; rw [← h]
    exact List.take_left
  · conv => lhs; arg 2; rw [← h]
    exact List.drop_left
theorem toks_first (b : UInt8) (r : List UInt8) : toks (b :: r) = tkT (b :: r) :: toks ((b :: r).drop (tkK (b :: r))) := by
  rw [toks_cons, tkT]
  obtain ⟨t1, t2⟩ := take_tk (b :: r)
  by_cases hb : digB b = true
  · have hk : tkK (b :: r) = tkN (b :: r) := by
      unfold tkK tkN
      rw [List.takeWhile_cons, if_pos hb, List.length_cons]
      omega
    rw [if_pos hb, if_pos hb, hk, t2]
  · have hk : tkK (b :: r) = 1 := by
      unfold tkK tkN
      rw [List.takeWhile_cons, if_neg hb]
      rfl
    rw [if_neg hb, if_neg hb, hk]
    rfl
theorem tok_less (a : UInt8) (x : List UInt8) (b : UInt8) (y : List UInt8) (ha : (a :: x).length < 65536) (hb : (b :: y).length < 65536) : tokC ((a :: x).take (tkK (a :: x))) ((b :: y).take (tkK (b :: y))) = lessL (tkT (a :: x)) (tkT (b :: y)) := by
  have one : ∀ (a : UInt8) (x : List UInt8), digB a = true → (a :: x).take (tkK (a :: x)) = (a :: x).takeWhile digB ∧ ∃ r, (a :: x).takeWhile digB = a :: r := fun a x h => by
    have hk : tkK (a :: x) = tkN (a :: x) := by
      unfold tkK tkN
      rw [List.takeWhile_cons, if_pos h, List.length_cons]
      omega
    exact ⟨by rw [hk, (take_tk _).1], _, by rw [List.takeWhile_cons, if_pos h]⟩
  have two : ∀ (a : UInt8) (x : List UInt8), ¬ digB a = true → (a :: x).take (tkK (a :: x)) = [a] := fun a x h => by
    have hk : tkK (a :: x) = 1 := by
      unfold tkK tkN
      rw [List.takeWhile_cons, if_neg h]
      rfl
    rw [hk]
    rfl
  rw [tkT, tkT]
  by_cases ha1 : digB a = true
  · obtain ⟨e1, r1, e2⟩ := one a x ha1
    rw [if_pos ha1, e1]
    by_cases hb1 : digB b = true
    · obtain ⟨f1, r2, f2⟩ := one b y hb1
      rw [if_pos hb1, f1]
      have l1 := (List.takeWhile_sublist (l := a :: x) digB).length_le
      have l2 := (List.takeWhile_sublist (l := b :: y) digB).length_le
      rw [num_less _ _ (by omega) (by omega)]
      rw [e2, f2, tokC, if_pos ha1, if_pos hb1]
    · rw [if_neg hb1, two b y hb1, e2, tokC, if_pos ha1, if_neg hb1]
      unfold numT
      rw [less_cons, if_neg (by decide)]
      decide
  · rw [if_neg ha1, two a x ha1]
    by_cases hb1 : digB b = true
    · obtain ⟨f1, r2, f2⟩ := one b y hb1
      rw [if_pos hb1, f1, f2, tokC, if_neg ha1, if_pos hb1]
      unfold numT
      rw [less_cons, if_neg (by decide)]
      decide
    · rw [if_neg hb1, two b y hb1, tokC, if_neg ha1, if_neg hb1, less_cons, if_pos (by decide), less_cons]
      split
      · rename_i q
        rw [q]
        rfl
      · rfl
theorem ver_step (a : UInt8) (x : List UInt8) (b : UInt8) (y : List UInt8) (ha : (a :: x).length < 65536) (hb : (b :: y).length < 65536) : verL (a :: x) (b :: y) = if tokC ((a :: x).take (tkK (a :: x))) ((b :: y).take (tkK (b :: y))) = 0 then verL ((a :: x).drop (tkK (a :: x))) ((b :: y).drop (tkK (b :: y))) else tokC ((a :: x).take (tkK (a :: x))) ((b :: y).take (tkK (b :: y))) := by
  rw [tok_less a x b y ha hb]
  unfold verL
  rw [toks_first, toks_first, lexC]
theorem ver_end {x y : List UInt8} (h : x = [] ∨ y = []) : verL x y = cmpI x.length y.length := by
  cases x with
  | nil =>
    cases y with
    | nil => rfl
    | cons b y =>
      unfold verL
      rw [toks_first b y, toks_nil]
      show (-1 : Int) = _
      unfold cmpI
      rw [if_pos (by simp)]
  | cons a x =>
    have : y = [] := by rcases h with h | h; cases h; exact h
    subst this
    unfold verL
    rw [toks_first a x, toks_nil]
    show (1 : Int) = _
    unfold cmpI
    rw [if_neg (by simp; omega), if_pos (by simp)]
end Go.Proofs.YtcjbnjoomgagjaaGreatDoor.O
