/-
  A table of devices, plainly: its texts, how wide each column is, its lines. Conditions: none.
-/
import Derived.Test.YtigkdehaepenhaaDoorJModM
import Derived.Test.YtigkdehaepenhaaDoorPadsLaw
import Derived.Lib.Join
set_option linter.unusedSimpArgs false
set_option linter.unusedVariables false
namespace Go.Proofs.YtigkdehaepenhaaDoor.J
open Go.Proofs.YtigkdehaepenhaaDoor.B

/-- What is told of a device. -/
structure Rw where
  dev : Int
  all : Int
  used : Int
  left : Int
  pct : Int
  at_ : ByteArray
def rwC (r : Rw) : List Value := [.int .i64 r.dev, .int .i64 r.all, .int .i64 r.used, .int .i64 r.left, .int .i64 r.pct, .string r.at_]
theorem rwC_len (r : Rw) : (rwC r).length = 6 := rfl
theorem rwC_one (r : Rw) : ∀ u ∈ rwC r, u.oneCell' = true := fun u hu => by
  simp only [rwC, List.mem_cons, List.mem_nil_iff, or_false] at hu
  rcases hu with rfl | rfl | rfl | rfl | rfl | rfl
  all_goals rfl
structure OkR (r : Rw) : Prop where
  dev : I64 r.dev
  all : I64 r.all
  used : I64 r.used
  left : I64 r.left
  pct : I64 r.pct
  at_ : r.at_.size ≤ 1000000
abbrev Row6 := Nat → ByteArray
def textsJ (r : Rw) : Row6
  | 0 => txt (Lib.itoa r.dev)
  | 1 => txt (Lib.itoa r.all)
  | 2 => txt (Lib.itoa r.used)
  | 3 => txt (Lib.itoa r.left)
  | 4 => txt (Lib.itoa r.pct) ++ ⟨#[37]⟩
  | _ => r.at_
def headsJ : Row6
  | 0 => ⟨#[68, 101, 118, 105, 99, 101]⟩
  | 1 => ⟨#[49, 75, 45, 98, 108, 111, 99, 107, 115]⟩
  | 2 => ⟨#[85, 115, 101, 100]⟩
  | 3 => ⟨#[65, 118, 97, 105, 108, 97, 98, 108, 101]⟩
  | 4 => ⟨#[85, 115, 101, 37]⟩
  | _ => ⟨#[77, 111, 117, 110, 116, 101, 100]⟩
def rowsJ (R : List Rw) : List Row6 := headsJ :: R.map textsJ
/-- A row's texts as an array's cells. -/
def r6 (r : Row6) : List Value := [.string (r 0), .string (r 1), .string (r 2), .string (r 3), .string (r 4), .string (r 5)]
theorem r6_len (r : Row6) : (r6 r).length = 6 := rfl
theorem six_cases {c : Nat} (h : c < 6) : c = 0 ∨ c = 1 ∨ c = 2 ∨ c = 3 ∨ c = 4 ∨ c = 5 := by omega
theorem r6_get (r : Row6) {c : Nat} (h : c < 6) : (r6 r)[c]? = some (.string (r c)) := by
  rcases six_cases h with rfl | rfl | rfl | rfl | rfl | rfl <;> rfl
/-- How wide a column is. -/
def wideJ (rs : List Row6) (c : Nat) : Nat := rs.foldl (fun m r => max m (r c).size) 0
theorem wide_snoc (rs : List Row6) (r : Row6) (c : Nat) : wideJ (rs ++ [r]) c = max (wideJ rs c) (r c).size := by
  unfold wideJ
  rw [List.foldl_append]
  rfl
theorem fold_ge (c : Nat) : ∀ (rs : List Row6) (m : Nat), m ≤ rs.foldl (fun m r => max m (r c).size) m
  | [], m => Nat.le_refl _
  | x :: t, m => Nat.le_trans (Nat.le_max_left _ _) (fold_ge c t (max m (x c).size))
theorem wide_ge {rs : List Row6} {r : Row6} {c : Nat} (h : r ∈ rs) : (r c).size ≤ wideJ rs c := by
  have key : ∀ (rs : List Row6) (m : Nat), r ∈ rs → (r c).size ≤ rs.foldl (fun m r => max m (r c).size) m := fun rs => by
    induction rs with
    | nil => intro m h; cases h
    | cons x t ih =>
      intro m h
      rw [List.foldl_cons]
      rcases List.mem_cons.1 h with rfl | h
      · have e := fold_ge c t (max m (r c).size)
        have := Nat.le_max_right m (r c).size
        omega
      · exact ih _ h
  exact key rs 0 h
theorem wide_le {rs : List Row6} {c K : Nat} (h : ∀ r ∈ rs, (r c).size ≤ K) : wideJ rs c ≤ K := by
  have key : ∀ (rs : List Row6) (m : Nat), m ≤ K → (∀ r ∈ rs, (r c).size ≤ K) → rs.foldl (fun m r => max m (r c).size) m ≤ K := fun rs => by
    induction rs with
    | nil => intro m h _; exact h
    | cons x t ih =>
      intro m hm h
      rw [List.foldl_cons]
      exact ih _ (Nat.max_le.2 ⟨hm, h x List.mem_cons_self⟩) fun r hr => h r (List.mem_cons_of_mem _ hr)
  exact key rs 0 (Nat.zero_le _) h
def padL (c w : Nat) (t : ByteArray) : ByteArray := if c = 0 then t ++ N.blankS (w - t.size) else if c < 5 then N.blankS (w - t.size) ++ t else t
def joinJ (l : List ByteArray) : ByteArray := ⟨(Lib.join (l.map fun n => n.data.toList) [32]).toArray⟩
def colsJ (w : Nat → Nat) (r : Row6) : List ByteArray := [padL 0 (w 0) (r 0), padL 1 (w 1) (r 1), padL 2 (w 2) (r 2), padL 3 (w 3) (r 3), padL 4 (w 4) (r 4), padL 5 (w 5) (r 5)]
def lineJ (w : Nat → Nat) (r : Row6) : ByteArray := joinJ (colsJ w r)
def tableJ (R : List Rw) : List ByteArray := (rowsJ R).map (lineJ (wideJ (rowsJ R)))
theorem table_len (R : List Rw) : (tableJ R).length = R.length + 1 := by unfold tableJ rowsJ; simp
theorem head_size : ∀ c, (headsJ c).size ≤ 9
  | 0 | 1 | 2 | 3 | 4 => by decide
  | _ + 5 => by show (⟨#[77, 111, 117, 110, 116, 101, 100]⟩ : ByteArray).size ≤ 9; decide
theorem text_size {r : Rw} (h : OkR r) {c : Nat} (hc : c < 5) : (textsJ r c).size ≤ 22 := by
  have a1 := itoa_len h.dev
  have a2 := itoa_len h.all
  have a3 := itoa_len h.used
  have a4 := itoa_len h.left
  have a5 := itoa_len h.pct
  rcases six_cases (show c < 6 by omega) with rfl | rfl | rfl | rfl | rfl | rfl
  · show (txt (Lib.itoa r.dev)).size ≤ 22; rw [txt_size]; omega
  · show (txt (Lib.itoa r.all)).size ≤ 22; rw [txt_size]; omega
  · show (txt (Lib.itoa r.used)).size ≤ 22; rw [txt_size]; omega
  · show (txt (Lib.itoa r.left)).size ≤ 22; rw [txt_size]; omega
  · show (txt (Lib.itoa r.pct) ++ ⟨#[37]⟩).size ≤ 22; rw [ByteArray.size_append, txt_size]; show _ + 1 ≤ 22; omega
  · omega
theorem rows_size {R : List Rw} (h : ∀ r ∈ R, OkR r) {c : Nat} (hc : c < 5) : ∀ r ∈ rowsJ R, (r c).size ≤ 22 := fun r hr => by
  unfold rowsJ at hr
  rcases List.mem_cons.1 hr with rfl | hr
  · have := head_size c; omega
  · obtain ⟨x, hx, rfl⟩ := List.mem_map.1 hr
    exact text_size (h x hx) hc
theorem rows_size5 {R : List Rw} (h : ∀ r ∈ R, OkR r) : ∀ r ∈ rowsJ R, (r 5).size ≤ 1000000 := fun r hr => by
  unfold rowsJ at hr
  rcases List.mem_cons.1 hr with rfl | hr
  · have := head_size 5; omega
  · obtain ⟨x, hx, rfl⟩ := List.mem_map.1 hr
    exact (h x hx).at_
theorem lack_small {a b : Nat} (ha : a ≤ 10000) (hb : b ≤ 10000) : N.lackN (a : Int) (b : Int) = b - a := by
  unfold N.lackN N.clampZ
  omega
/-- A line, put together column by column. -/
theorem line_is (w : Nat → Nat) (r : Row6) : lineJ w r = r 0 ++ N.blankS (w 0 - (r 0).size) ++ (⟨#[32]⟩ ++ N.blankS (w 1 - (r 1).size) ++ r 1) ++ (⟨#[32]⟩ ++ N.blankS (w 2 - (r 2).size) ++ r 2) ++ (⟨#[32]⟩ ++ N.blankS (w 3 - (r 3).size) ++ r 3) ++ (⟨#[32]⟩ ++ N.blankS (w 4 - (r 4).size) ++ r 4) ++ ⟨#[32]⟩ ++ r 5 := by
  have e : ∀ a b : ByteArray, (a ++ b).data.toList = a.data.toList ++ b.data.toList := fun a b => by simp [ByteArray.data_append]
  have x : ∀ s t : ByteArray, s.data.toList = t.data.toList → s = t := fun s t h => by
    cases s; cases t
    simp only [ByteArray.mk.injEq]
    exact Array.toList_inj.1 h
  apply x
  unfold lineJ joinJ colsJ padL
  simp [e, Lib.join, Lib.joinTail]
end Go.Proofs.YtigkdehaepenhaaDoor.J
