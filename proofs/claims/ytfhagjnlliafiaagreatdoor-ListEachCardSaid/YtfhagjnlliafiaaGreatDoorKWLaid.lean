/-
  Plain facts on widths.
  Conditions: each fact's own.
-/
import Derived.Lib.RuneCountTail
import Derived.Test.YtfhagjnlliafiaaGreatDoorRows
import Derived.WalkKit
import Derived.WalkSpells
import Derived.WalkLawsBesides
import Derived.Lib.Hide
import Derived.Lib.OthersKept
import Derived.Test.YtfhagjnlliafiaaGreatDoorCards
import Derived.Test.YtfhagjnlliafiaaGreatDoorTie
import Derived.ProofKit
import Derived.OpenShut
import Derived.ShutString
import Derived.ChangeOld
import Derived.Below
import Derived.LaidMore
import Derived.Deep.Slices
import Derived.Deep.Fields
import Derived.ChangeSame
import Derived.Deep.DeepHandedRow
import Derived.Deep.DeepWitnessRowRef
import Derived.Stop.LaidErr
set_option maxHeartbeats 4000000
set_option maxRecDepth 100000
namespace Go.Proofs.YtfhagjnlliafiaaGreatDoor.W
def rowsL : List (Int × Int × Int) := [(0, 31, 0), (127, 159, 0), (768, 879, 0), (4352, 4447, 2), (8203, 8207, 0), (11904, 12350, 2), (12353, 13311, 2), (13312, 19903, 2), (19968, 42191, 2), (44032, 55203, 2), (63744, 64255, 2), (65024, 65039, 0), (65072, 65135, 2), (65280, 65376, 2), (65504, 65510, 2), (127744, 128591, 2), (131072, 262141, 2)]
def look : List (Int × Int × Int) → Int → Int
  | [], _ => 1
  | (a, b, c) :: t, r => if r < a then 1 else if r ≤ b then c else look t r
def runeW (r : Int) : Int := look rowsL r
theorem look_nil {r : Int} : look [] r = 1 := rfl
theorem look_lt {a b c r : Int} {t : List (Int × Int × Int)} (h : r < a) : look ((a, b, c) :: t) r = 1 := by simp [look, h]
theorem look_in {a b c r : Int} {t : List (Int × Int × Int)} (h : ¬ r < a) (k : r ≤ b) : look ((a, b, c) :: t) r = c := by simp [look, h, k]
theorem look_on {a b c r : Int} {t : List (Int × Int × Int)} (h : ¬ r < a) (k : ¬ r ≤ b) : look ((a, b, c) :: t) r = look t r := by simp [look, h, k]
theorem look_by {P : Int → Prop} {a b c r : Int} {t : List (Int × Int × Int)} (h1 : r < a → P 1) (h2 : a ≤ r → r ≤ b → P c) (h3 : b < r → a ≤ r → P (look t r)) : P (look ((a, b, c) :: t) r) := by
  by_cases h : r < a
  · rw [look_lt h]; exact h1 h
  · by_cases k : r ≤ b
    · rw [look_in h k]; exact h2 (by omega) k
    · rw [look_on h k]; exact h3 (by omega) (by omega)
def zerosL : List (Int × Int) := [(0, 31), (127, 159), (768, 879), (8203, 8207), (65024, 65039)]
def twosL : List (Int × Int) := [(4352, 4447), (11904, 12350), (12353, 13311), (13312, 19903), (19968, 42191), (44032, 55203), (63744, 64255), (65072, 65135), (65280, 65376), (65504, 65510), (127744, 128591), (131072, 262141)]
def inP : List (Int × Int) → Int → Bool
  | [], _ => false
  | (a, b) :: t, r => if a ≤ r ∧ r ≤ b then true else inP t r
def refW (r : Int) : Int := if inP zerosL r then 0 else if inP twosL r then 2 else 1
def zeroP (r : Int) : Prop := (0 ≤ r ∧ r ≤ 31) ∨ (127 ≤ r ∧ r ≤ 159) ∨ (768 ≤ r ∧ r ≤ 879) ∨ (8203 ≤ r ∧ r ≤ 8207) ∨ (65024 ≤ r ∧ r ≤ 65039)
def twoP (r : Int) : Prop := (4352 ≤ r ∧ r ≤ 4447) ∨ (11904 ≤ r ∧ r ≤ 12350) ∨ (12353 ≤ r ∧ r ≤ 13311) ∨ (13312 ≤ r ∧ r ≤ 19903) ∨ (19968 ≤ r ∧ r ≤ 42191) ∨ (44032 ≤ r ∧ r ≤ 55203) ∨ (63744 ≤ r ∧ r ≤ 64255) ∨ (65072 ≤ r ∧ r ≤ 65135) ∨ (65280 ≤ r ∧ r ≤ 65376) ∨ (65504 ≤ r ∧ r ≤ 65510) ∨ (127744 ≤ r ∧ r ≤ 128591) ∨ (131072 ≤ r ∧ r ≤ 262141)
theorem inP_iff : ∀ (l : List (Int × Int)) (r : Int), inP l r = true ↔ ∃ p ∈ l, p.1 ≤ r ∧ r ≤ p.2
  | [], r => by simp [inP]
  | (a, b) :: t, r => by
    unfold inP
    by_cases h : a ≤ r ∧ r ≤ b
    · rw [if_pos h]; simp [h]
    · rw [if_neg h, inP_iff t r]; simp [h]
theorem inP_zeros (r : Int) : inP zerosL r = true ↔ zeroP r := by rw [inP_iff]; simp [zerosL, zeroP]
theorem inP_twos (r : Int) : inP twosL r = true ↔ twoP r := by rw [inP_iff]; simp [twosL, twoP]
theorem refW_zero (r : Int) (h : zeroP r) : refW r = 0 := by rw [refW, if_pos ((inP_zeros r).2 h)]
theorem refW_two (r : Int) (h0 : ¬ zeroP r) (h : twoP r) : refW r = 2 := by
  rw [refW, if_neg (fun k => h0 ((inP_zeros r).1 k)), if_pos ((inP_twos r).2 h)]
theorem refW_one (r : Int) (h0 : ¬ zeroP r) (h : ¬ twoP r) : refW r = 1 := by
  rw [refW, if_neg (fun k => h0 ((inP_zeros r).1 k)), if_neg (fun k => h ((inP_twos r).1 k))]
theorem refW_eq (r : Int) : refW r = runeW r := by
  unfold runeW rowsL
  repeat' (refine look_by (P := fun z => refW r = z) ?_ ?_ ?_ <;> intros)
  all_goals (try rw [look_nil])
  all_goals first
    | (refine refW_zero r ?_; unfold zeroP; omega)
    | (refine refW_two r ?_ ?_; unfold zeroP; omega; unfold twoP; omega)
    | (refine refW_one r ?_ ?_; unfold zeroP; omega; unfold twoP; omega)
theorem runeW_bd (r : Int) : 0 ≤ runeW r ∧ runeW r ≤ 2 := by
  rw [← refW_eq]
  unfold refW
  repeat' split
  all_goals omega
def wdF (s : ByteArray) : Nat → Nat → Int
  | 0, _ => 0
  | f + 1, pos => if pos < s.size then runeW (Utf8.decode s pos).1 + wdF s f (pos + (Utf8.decode s pos).2) else 0
def wd (s : ByteArray) (pos : Nat) : Int := wdF s (s.size - pos) pos
theorem wdF_end (s : ByteArray) (f pos : Nat) (h : ¬ pos < s.size) : wdF s f pos = 0 := by
  cases f <;> simp [wdF, h]
theorem wdF_enough (s : ByteArray) : ∀ f g pos, s.size - pos ≤ f → s.size - pos ≤ g → wdF s f pos = wdF s g pos
  | 0, g, pos, hf, _ => by rw [wdF_end s g pos (by omega)]; rfl
  | f + 1, 0, pos, _, hg => by rw [wdF_end s (f + 1) pos (by omega)]; rfl
  | f + 1, g + 1, pos, hf, hg => by
    unfold wdF
    by_cases h : pos < s.size
    · have hw := Lib.decode_width_pos s pos h
      rw [if_pos h, if_pos h, wdF_enough s f g _ (by omega) (by omega)]
    · rw [if_neg h, if_neg h]
theorem wd_end (s : ByteArray) (pos : Nat) (h : ¬ pos < s.size) : wd s pos = 0 := wdF_end s _ pos h
theorem wd_step (s : ByteArray) (pos : Nat) (h : pos < s.size) : wd s pos = runeW (Utf8.decode s pos).1 + wd s (pos + (Utf8.decode s pos).2) := by
  have hw := Lib.decode_width_pos s pos h
  have e : s.size - pos = (s.size - pos - 1) + 1 := by omega
  rw [wd, e, wdF, if_pos h, wd, wdF_enough s (s.size - pos - 1) (s.size - (pos + (Utf8.decode s pos).2)) _ (by omega) (by omega)]
theorem wdF_bd (s : ByteArray) : ∀ f pos, 0 ≤ wdF s f pos ∧ wdF s f pos ≤ 2 * ((s.size - pos : Nat) : Int)
  | 0, pos => by unfold wdF; omega
  | f + 1, pos => by
    unfold wdF
    split
    · rename_i h
      have hw := Lib.decode_width_pos s pos h
      have := wdF_bd s f (pos + (Utf8.decode s pos).2)
      have := runeW_bd (Utf8.decode s pos).1
      omega
    · omega
theorem wd_bd (s : ByteArray) (pos : Nat) : 0 ≤ wd s pos ∧ wd s pos ≤ 2 * ((s.size - pos : Nat) : Int) := wdF_bd s _ pos
theorem decodeN_len (n b0 b1 b2 b3 : Nat) (hn : 1 ≤ n) : (Lib.decodeN n b0 b1 b2 b3).2 ≤ n := by
  unfold Lib.decodeN
  repeat' split
  all_goals (dsimp only; omega)
theorem decode_len (s : ByteArray) (pos : Nat) (h : pos < s.size) : pos + (Utf8.decode s pos).2 ≤ s.size := by
  have := decodeN_len (s.size - pos) (s.get! pos).toNat (s.get! (pos + 1)).toNat (s.get! (pos + 2)).toNat (s.get! (pos + 3)).toNat (by omega)
  rw [Lib.decode_at]
  omega
end Go.Proofs.YtfhagjnlliafiaaGreatDoor.W
namespace Go.Proofs.YtfhagjnlliafiaaGreatDoor.W
open Go.RowKit
theorem ret_int {k : IntKind} {a b : Int} (h : a = b) : Ending.returned (.int k a) = .returned (.int k b) := by rw [h]
theorem below_two {w a b : World} (h : Below w.heap.size w a) (k : Below a.heap.size a b) : Below w.heap.size w b := h.trans (k.mono h.size)
def rowAt (k : Nat) : Int × Int × Int := rowsL.getD k (0, 0, 0)
structure TabAt (b off cap : Nat) (w : World) : Prop where
  var : w.cell? ⟨0, 0, none⟩ = some (.slice (some ⟨b, off, none⟩) 17 cap)
  lo : ∀ k, k < 17 → w.cell? ⟨b, off + k * 3, none⟩ = some (.int .i32 (rowAt k).1)
  hi : ∀ k, k < 17 → w.cell? ⟨b, off + k * 3 + 1, none⟩ = some (.int .i32 (rowAt k).2.1)
  wide : ∀ k, k < 17 → w.cell? ⟨b, off + k * 3 + 2, none⟩ = some (.int .i64 (rowAt k).2.2)
def Tab (w : World) : Prop := ∃ b off cap, TabAt b off cap w
theorem cell_lt {w : World} {a : Addr} {v : Value} (h : w.cell? a = some v) : a.block < w.heap.size := by
  apply Classical.byContradiction
  intro hn
  have : w.heap[a.block]? = none := Array.getElem?_eq_none (by omega)
  unfold World.cell? at h
  simp [this] at h
theorem TabAt.keep {b off cap : Nat} {w w' : World} (h : TabAt b off cap w) (hb : Below w.heap.size w w') : TabAt b off cap w' :=
  ⟨by rw [hb.cell (p := ⟨0, 0, none⟩) (cell_lt h.var)]; exact h.var,
   fun k hk => by rw [hb.cell (p := ⟨b, off + k * 3, none⟩) (cell_lt (h.lo k hk))]; exact h.lo k hk,
   fun k hk => by rw [hb.cell (p := ⟨b, off + k * 3 + 1, none⟩) (cell_lt (h.hi k hk))]; exact h.hi k hk,
   fun k hk => by rw [hb.cell (p := ⟨b, off + k * 3 + 2, none⟩) (cell_lt (h.wide k hk))]; exact h.wide k hk⟩
theorem Tab.keep {w w' : World} (h : Tab w) (hb : Below w.heap.size w w') : Tab w' := by
  obtain ⟨b, off, cap, h⟩ := h
  exact ⟨b, off, cap, h.keep hb⟩
theorem drop_row (k : Nat) (hk : k < 17) : rowsL.drop k = rowAt k :: rowsL.drop (k + 1) := by
  have hl : k < rowsL.length := hk
  rw [List.drop_eq_getElem_cons hl]
  unfold rowAt
  simp [List.getD, hl]
theorem look_row_lt (k : Nat) (hk : k < 17) (r : Int) (h : r < (rowAt k).1) : look (rowsL.drop k) r = 1 := by
  rw [drop_row k hk]; exact look_lt h
theorem look_row_in (k : Nat) (hk : k < 17) (r : Int) (h : ¬ r < (rowAt k).1) (h2 : r ≤ (rowAt k).2.1) : look (rowsL.drop k) r = (rowAt k).2.2 := by
  rw [drop_row k hk]; exact look_in h h2
theorem look_row_on (k : Nat) (hk : k < 17) (r : Int) (h : ¬ r < (rowAt k).1) (h2 : ¬ r ≤ (rowAt k).2.1) : look (rowsL.drop k) r = look (rowsL.drop (k + 1)) r := by
  rw [drop_row k hk]; exact look_on h h2
def RuneRel (r : Int) (w : World) (i : Value) (w' : World) : Prop := ∃ k : Nat, k ≤ 17 ∧ i = .int .i64 k ∧ look (rowsL.drop k) r = runeW r ∧ Below w.heap.size w w'
theorem rune_any (r : Int) (w : World) (ht : Tab w) :
    Calls Tryz.prog 79 #[.int .i32 r] w fun e w' => e = .returned (.int .i64 (runeW r)) ∧ Below w.heap.size w w' := by
  obtain ⟨b, off, cap, ht⟩ := ht
  have hv := ht.var
  have HT := Lib.hid ht
  clear ht
  go_enter Tryz.func79, Tryz.ntmps79
  go_wp2
  clear hv
  go_loopw [7] (RuneRel r w) (fun i _ => 17 - (intOf i).toNat)
  case atStart => exact ⟨0, by omega, rfl, rfl, Below.refl _ _⟩
  case round =>
    obtain ⟨k, hk, rfl, hl, hb⟩ := hrel
    have HB := Lib.hid hb
    have HL := Lib.hid hl
    have T := HT.out.keep hb
    clear hb hl
    by_cases hlt : k < 17
    · have c0 := T.lo k hlt
      have c1 := T.hi k hlt
      have c2 := T.wide k hlt
      clear T
      go_wp2
      · go_ret
        exact ⟨ret_int (by rw [← HL.out, look_row_lt k hlt r ‹_›]), HB.out.alloc HB.out.size _⟩
      · go_ret
        have h1 : (rowAt k).1 ≤ r := ‹_›
        exact ⟨ret_int (by rw [← HL.out, look_row_in k hlt r (by omega) ‹_›]), HB.out.alloc HB.out.size _⟩
      · go_roundw
        case rel =>
          have h1 : (rowAt k).1 ≤ r := ‹_›
          have h2 : (rowAt k).2.1 < r := ‹_›
          exact ⟨k + 1, by omega, by go_num, by rw [← HL.out, look_row_on k hlt r (by omega) (by omega)], HB.out.alloc HB.out.size _⟩
        case measure => simp [intOf]; omega
    · obtain rfl : k = 17 := by omega
      clear T
      go_wp2
      go_ret
      exact ⟨ret_int (by rw [← HL.out]; rfl), HB.out⟩
end Go.Proofs.YtfhagjnlliafiaaGreatDoor.W
namespace Go.Proofs.YtfhagjnlliafiaaGreatDoor.W
open Go.ChangeShapes Go.WideShapes Go.ChangeAt Go.RowKit Go.Deep
theorem own : ownKnob Tryz.prog.godebug = none := by kernel_rfl
theorem laidOut : laidOutB Tryz.prog = true := by kernel_rfl
theorem gRows : Tryz.prog.globalNamed "domesday/width.rows" = some 0 := by kernel_rfl
theorem gRowsType : (Tryz.prog.globals[0]?).map (·.type) = some 155 := by kernel_rfl
theorem cellsSpan : Tryz.prog.cellsOf 157 = 3 := by kernel_rfl
theorem cellsI32 : Tryz.prog.cellsOf 21 = 1 := by kernel_rfl
theorem cellsInt : Tryz.prog.cellsOf 3 = 1 := by kernel_rfl
def rowD {H : Type} (x : Int × Int × Int) : DataW H := .agg [.lit (.int .i32 x.1), .lit (.int .i32 x.2.1), .lit (.int .i64 x.2.2)]
theorem laid_rows : (Rows.laid_domesday_width_rows : DataW Unit) = .slice (rowsL.map rowD) [] := rfl
theorem row_cells {H : Type} {enc : TypeId × Value → H} {W : World} {base : Nat} {sp : Nat → Bool} {held : Bool} {fuel : Nat} {cs : List Value} {x : Int × Int × Int} {p : List MemPlace}
    (h : DataW.trod enc Tryz.prog W base sp held fuel 157 cs = some (rowD x, p)) : cs = [.int .i32 x.1, .int .i32 x.2.1, .int .i64 x.2.2] := by
  obtain ⟨ys, n, _, hx, hlen, hyl, hf⟩ := DataW.trod_struct Tryz.underlying157 h
  rw [cellsSpan] at hlen
  have f0 := hf 0 _ rfl
  have f1 := hf 1 _ rfl
  have f2 := hf 2 _ rfl
  clear hf
  match cs, hlen, ys, hyl with
  | [c0, c1, c2], _, [y0, y1, y2], _ =>
    simp [cellsI32, cellsInt] at f0 f1 f2
    obtain ⟨n0, e0, d0, _⟩ := DataW.trod_int Tryz.underlying21 f0
    obtain ⟨n1, e1, d1, _⟩ := DataW.trod_int Tryz.underlying21 f1
    obtain ⟨n2, e2, d2, _⟩ := DataW.trod_int Tryz.underlying3 f2
    subst d0 d1 d2
    simp [rowD] at hx
    obtain ⟨⟨h0, h1, h2⟩, _⟩ := hx
    simp at e0 e1 e2
    rw [e0, e1, e2, h0, h1, h2]
theorem tab_of {W : World} {rest : List (String × DataW Unit)} (h : laidMet Tryz.prog (("domesday/width.rows", Rows.laid_domesday_width_rows) :: rest) W) : Tab W := by
  obtain ⟨ps, ⟨g', t', cs, fuel, p, q, hg', ht', hvar, hd, _, _⟩, _⟩ := h
  obtain rfl := Option.some.inj (gRows.symm.trans hg')
  obtain rfl := Option.some.inj (gRowsType.symm.trans ht')
  rw [laid_rows] at hd
  rcases open_slice Tryz.underlying155 hd with ⟨_, hx⟩ | ⟨a, len, cap, m, n, D, Pl, hcs, _, hl, _, hm, hx, hi⟩
  · simp at hx
  simp only [Prod.mk.injEq, DataW.slice.injEq] at hx
  obtain ⟨⟨hD, _⟩, _⟩ := hx
  have hlen : len = 17 := by
    have := congrArg List.length hD
    simpa [rowsL] using this.symm
  subst hlen
  have hm17 : 17 ≤ m := by rw [hm]; split <;> omega
  have each : ∀ k, k < 17 → W.cell? (a.add (k * 3)) = some (.int .i32 (rowAt k).1) ∧ W.cell? (a.add (k * 3 + 1)) = some (.int .i32 (rowAt k).2.1) ∧ W.cell? (a.add (k * 3 + 2)) = some (.int .i64 (rowAt k).2.2) := by
    intro k hk
    obtain ⟨cs', hc, ht⟩ := hi k (by omega)
    have hDk : D k = rowD (rowAt k) := by
      have := congrArg (fun l => l[k]?) hD
      have hk' : k < rowsL.length := hk
      simp [hk, hk'] at this
      rw [← this]
      unfold rowAt
      simp [List.getD, hk']
    rw [hDk] at ht
    have e := row_cells ht
    subst e
    rw [cellsSpan] at hc
    obtain ⟨_, _, hat⟩ := World.cells?_some hc
    have g0 := hat 0 (by omega)
    have g1 := hat 1 (by omega)
    have g2 := hat 2 (by omega)
    rw [Go.Deep.add_add] at g0 g1 g2
    exact ⟨by simpa using g0, by simpa using g1, by simpa using g2⟩
  obtain ⟨b, off, spot⟩ := a
  have hspot : spot = none := by simpa [Addr.add] using World.cell?_spot (each 0 (by omega)).1
  subst hspot
  refine ⟨b, off, cap, ?_, fun k hk => ?_, fun k hk => ?_, fun k hk => ?_⟩
  · have := World.var?_cell hg' hvar 0
    rw [Array.eq_one_of_toList hcs] at this
    simpa using this
  · have := (each k hk).1
    rw [add_plain] at this
    exact this
  · have := (each k hk).2.1
    rw [add_plain] at this
    exact this
  · have := (each k hk).2.2
    rw [add_plain] at this
    exact this
end Go.Proofs.YtfhagjnlliafiaaGreatDoor.W
