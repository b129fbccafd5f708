/-
  What few changes make is within the bounds that the facts of nodes ask: numbers of 64 bits, modes of 12 bits, three kinds, short texts. Conditions: few changes.
  What facts.Format returns of a file system that lies in memory; that the laws' own first question is answered. Conditions: the file system lies in memory; a format of at most 1000 bytes, names of at most 60000; the tables lie.
  A table of devices, plainly: its texts, how wide each column is, its lines. Conditions: none.
  What is told of each device: its units, those that are used and left, where it is; the devices' numbers and their firsts. Conditions: each fact's own.
  What slices.Reverse and strings.Join return of a slice of strings that the call has made. Conditions: the slice's cells lie in memory, few and short.
  What real.Dir returns: a directory's real path. Conditions: the file system lies in memory; what is asked for is covered by nothing.
  What the program tells of one device: the units that its nodes use, and where it is. Conditions: the file system lies in memory.
-/
import Derived.Test.YtknfhphhcnbndaaGreatDoorFJModM
import Derived.Test.YtknfhphhcnbndaaGreatDoorFJMem
import Derived.Test.YtknfhphhcnbndaaGreatDoorFVAsk
import Derived.Test.YtknfhphhcnbndaaGreatDoorFJArg
import Derived.Test.YtknfhphhcnbndaaGreatDoorFFormat
import Derived.Lib.Join
import Derived.Test.YtknfhphhcnbndaaGreatDoorFRRealM
import Derived.Test.YtknfhphhcnbndaaGreatDoorFPercent
import Derived.Test.YtknfhphhcnbndaaGreatDoorFAdd
import Derived.Lib.OwnBridge
import Derived.Deep.LoopGhost
import Derived.Test.YtknfhphhcnbndaaGreatDoorFJTold
set_option linter.unusedSimpArgs false
set_option linter.unusedVariables false
namespace Go.Proofs.YtknfhphhcnbndaaGreatDoor.J
open Go.Proofs.YtknfhphhcnbndaaGreatDoor.B

structure OkJ (n : V.Nd) : Prop where
  size : I64 n.size
  blk : 0 ≤ n.blocks ∧ n.blocks ≤ 9223372036854775807
  t0 : I64 n.t0
  t1 : I64 n.t1
  t2 : I64 n.t2
  uid : I64 n.uid
  gid : I64 n.gid
  m0 : 0 ≤ n.mode
  m1 : n.mode < 4096
  kind : n.kind = 1 ∨ n.kind = 2 ∨ n.kind = 3
  tgt : n.target.size ≤ 5000
def OkM (M : List V.Nd) : Prop := ∀ n ∈ M, OkJ n
theorem ok_mod {M : List V.Nd} {i : Nat} {f : V.Nd → V.Nd} (h : OkM M) (hf : ∀ n, OkJ n → OkJ (f n)) : OkM (M.modify i f) := V.all_modify (P := OkJ) (P' := OkJ) h (fun _ q => q) hf
theorem ok_app {M : List V.Nd} {n : V.Nd} (h : OkM M) (hn : OkJ n) : OkM (M ++ [n]) := fun x hx => by
  rcases List.mem_append.1 hx with hx | hx
  · exact h x hx
  · obtain rfl := List.mem_singleton.1 hx; exact hn
theorem ok_added {n : V.Nd} {d : Int} {M : List V.Nd} (h : OkJ n) : OkJ (V.addedNd n d M) := ⟨h.size, h.blk, h.t0, h.t1, h.t2, h.uid, h.gid, h.m0, h.m1, h.kind, h.tgt⟩
theorem zero64 : I64 0 := i64_small (by decide) (by decide)
theorem ok_dir {m u : Int} (h0 : 0 ≤ m) (h1 : m < 4096) : OkJ (V.dirNd m u) := ⟨i64_small (show (0 : Int) ≤ 4096 by decide) (show (4096 : Int) ≤ _ by decide), ⟨(by decide : (0 : Int) ≤ 8), (by decide : (8 : Int) ≤ 9223372036854775807)⟩, zero64, zero64, zero64, zero64, zero64, h0, h1, .inr (.inl rfl), Nat.zero_le _⟩
theorem ok_new : OkM V.newM := fun n hn => by
  obtain rfl : n = V.addedNd (V.dirNd 493 0) 1 [] := by simpa [V.newM] using hn
  exact ok_added (ok_dir (by decide) (by decide))
theorem blk_bd {n : Int} (h : 0 ≤ n) (h2 : n ≤ 9223372036854775807) : 0 ≤ V.blkOf n ∧ V.blkOf n ≤ 9223372036854775807 := by
  unfold V.blkOf
  split <;> omega
theorem file_size {M : List V.Nd} {c : V.Chg} (h : V.wrongM M c = 0) (hk : c.kind = 1) : 0 ≤ c.n := by
  unfold V.wrongM V.refuseE at h
  have hb : V.baseE (V.atM M) c = 0 := by
    split at h
    · cases h
    · exact h
  unfold V.baseE at hb
  rw [if_pos (by omega)] at hb
  unfold V.entryE at hb
  split at hb
  · cases hb
  · repeat' split at hb
    all_goals first | (cases hb; done) | omega
theorem ok_file {m n b : Int} (h0 : 0 ≤ m) (h1 : m < 4096) (h : I64 n) (hb : 0 ≤ b ∧ b ≤ 9223372036854775807) : OkJ (V.fileNd m n b) := ⟨h, hb, zero64, zero64, zero64, zero64, zero64, h0, h1, .inl rfl, Nat.zero_le _⟩
theorem ok_link {s : ByteArray} (h : s.size ≤ 5000) : OkJ (V.linkNd s) := ⟨i64_small (show (0 : Int) ≤ (s.size : Int) by omega) (show (s.size : Int) ≤ _ by omega), ⟨(by decide : (0 : Int) ≤ 0), (by decide : (0 : Int) ≤ 9223372036854775807)⟩, zero64, zero64, zero64, zero64, zero64, (by decide : (0 : Int) ≤ 511), (by decide : (511 : Int) < 4096), .inr (.inr rfl), h⟩
theorem ok_more {n : V.Nd} (h : OkJ n) : OkJ (V.moreLinks n) := ⟨h.size, h.blk, h.t0, h.t1, h.t2, h.uid, h.gid, h.m0, h.m1, h.kind, h.tgt⟩
theorem ok_ent {s : ByteArray} {i : Int} {n : V.Nd} (h : OkJ n) : OkJ (V.addEnt s i n) := ⟨h.size, h.blk, h.t0, h.t1, h.t2, h.uid, h.gid, h.m0, h.m1, h.kind, h.tgt⟩
theorem ok_over {i : Int} {n : V.Nd} (h : OkJ n) : OkJ (V.setOver i n) := ⟨h.size, h.blk, h.t0, h.t1, h.t2, h.uid, h.gid, h.m0, h.m1, h.kind, h.tgt⟩
theorem ok_built {M : List V.Nd} {i : Nat} {s : ByteArray} {n : V.Nd} {d : Int} (h : OkM M) (hn : OkJ n) : OkM (V.builtM M i s n d) :=
  ok_mod (ok_mod (ok_app h (ok_added hn)) fun _ q => ok_ent q) fun _ q => ok_more q
theorem max_bd {x : Int} (h : I64 x) : I64 (V.maxI x 0) := by
  obtain ⟨h0, h1⟩ := h
  unfold I64 V.maxI
  split <;> omega
theorem mode_bd (x : Int) : 0 ≤ x % 4096 ∧ x % 4096 < 4096 := by omega
theorem ok_set {c : V.Chg} {n : V.Nd} (h : I64 c.n) (ha : I64 c.a) (hb : I64 c.b) (q : OkJ n) : OkJ (V.setNd c n) := by
  unfold V.setNd
  repeat' split
  all_goals first
    | exact ⟨q.size, q.blk, q.t0, q.t1, q.t2, q.uid, q.gid, (mode_bd _).1, (mode_bd _).2, q.kind, q.tgt⟩
    | exact ⟨q.size, q.blk, q.t0, q.t1, q.t2, max_bd ha, max_bd hb, q.m0, q.m1, q.kind, q.tgt⟩
    | exact ⟨q.size, q.blk, q.t0, q.t1, q.t2, q.uid, q.gid, q.m0, q.m1, q.kind, q.tgt⟩
    | exact ⟨q.size, q.blk, h, q.t1, q.t2, q.uid, q.gid, q.m0, q.m1, q.kind, q.tgt⟩
    | exact ⟨q.size, q.blk, q.t0, h, q.t2, q.uid, q.gid, q.m0, q.m1, q.kind, q.tgt⟩
    | exact ⟨q.size, q.blk, q.t0, q.t1, h, q.uid, q.gid, q.m0, q.m1, q.kind, q.tgt⟩
theorem ok_do {M : List V.Nd} {c : V.Chg} (h : OkM M) (hn : I64 c.n) (ha : I64 c.a) (hb : I64 c.b) (ht : c.text.size ≤ 5000) : OkM (V.doM M c) := by
  unfold V.doM
  split
  · rename_i hw
    unfold V.carryM
    split
    · exact ok_built h (ok_dir (mode_bd _).1 (mode_bd _).2)
    · split
      · rename_i hk
        exact ok_built h (ok_file (mode_bd _).1 (mode_bd _).2 hn (blk_bd (file_size hw hk) hn.2))
      · split
        · exact ok_mod (ok_mod h fun _ q => ok_ent q) fun _ q => ok_more q
        · split
          · exact ok_built h (ok_link ht)
          · split
            · exact ok_mod (ok_app h (ok_added (ok_dir (mode_bd _).1 (mode_bd _).2))) fun _ q => ok_over q
            · exact ok_mod h fun n q => ok_set hn ha hb q
  · exact h
theorem runM_ok : ∀ (cs : List V.Chg) (M : List V.Nd), (∀ c ∈ cs, I64 c.n ∧ I64 c.a ∧ I64 c.b ∧ c.text.size ≤ 5000) → OkM M → OkM (V.runM cs M)
  | [], M, _, h => h
  | c :: r, M, hc, h => runM_ok r (V.doM M c) (fun x hx => hc x (List.mem_cons_of_mem _ hx)) (ok_do h (hc c List.mem_cons_self).1 (hc c List.mem_cons_self).2.1 (hc c List.mem_cons_self).2.2.1 (hc c List.mem_cons_self).2.2.2)
/-- What the facts of nodes ask of them. -/
structure GoodJ (M : List V.Nd) : Prop where
  pos : 0 < M.length
  few : M.length ≤ 300
  dev : V.DevInv M
  lnk : ∀ n ∈ M, 0 ≤ n.links ∧ n.links ≤ 402
  ok : OkM M
theorem few_text' {cs : List V.Chg} (h : V.FewL cs) (hl : cs.length ≤ 400) : ∀ c ∈ cs, c.text.size ≤ 5000 := fun c hc => by
  obtain ⟨k, hk, e⟩ := List.getElem_of_mem hc
  exact (h k c (by omega) (by rw [← e]; exact List.getElem?_eq_getElem hk)).2
theorem good_run (cs : List V.Chg) (hl : cs.length ≤ 400) (hf : V.FewL cs) (hn : ∀ c ∈ cs, I64 c.n ∧ I64 c.a ∧ I64 c.b) : GoodJ (V.runM cs V.newM) := by
  have hs := V.runM_small cs V.newM 0 V.new_small
  refine ⟨V.runM_pos cs V.newM (by decide), hs.1, V.runM_dev cs V.newM V.devInv_new, fun n hm => ?_, runM_ok cs V.newM (fun c hc => ⟨(hn c hc).1, (hn c hc).2.1, (hn c hc).2.2, few_text' hf hl c hc⟩) ok_new⟩
  have h3 := hs.2 n hm
  omega
theorem good_new : GoodJ V.newM := good_run [] (by simp) (fun k c hk hc => by simp at hc) (fun c hc => by cases hc)
theorem GoodJ.text {M : List V.Nd} (h : GoodJ M) (i : Int) : (V.linkT M i).size ≤ 5000 := by
  unfold V.linkT
  split
  · exact Nat.zero_le _
  · rename_i n hn
    obtain ⟨k, _, hk⟩ := V.atM_some hn
    have q := h.ok n (List.mem_of_getElem? hk)
    repeat' split
    · exact Nat.zero_le _
    · exact q.tgt
    · exact Nat.zero_le _
theorem GoodJ.num {M : List V.Nd} (h : GoodJ M) {i : Int} {x : V.Nd} (hx : V.atM M i = some x) : NumJ (V.nvAt M i) := by
  obtain ⟨k, _, hk⟩ := V.atM_some hx
  have hm := List.mem_of_getElem? hk
  have q := h.ok x hm
  have h1 := h.dev k x hk
  have h2 := V.cntD_bd x.dev (M.take k)
  have h3 := h.lnk x hm
  have h5 := h.few
  have h6 : (M.take k).length ≤ 300 := by rw [List.length_take]; omega
  have h7 := V.devL_len M 0
  have e : V.nvAt M i = V.nvOf x := by unfold V.nvAt; rw [hx]
  rw [e]
  exact ⟨q.size, ⟨(show -9223372036854775808 ≤ x.blocks by have := q.blk; omega), q.blk.2⟩, q.t0, q.t1, q.t2, q.uid, q.gid, i64_small (show 0 ≤ x.ino by omega) (show x.ino ≤ _ by omega), i64_small (show 0 ≤ x.dev by omega) (show x.dev ≤ _ by omega), i64_small (show 0 ≤ x.links by omega) (show x.links ≤ _ by omega), q.m0, q.m1, q.kind⟩
end Go.Proofs.YtknfhphhcnbndaaGreatDoor.J

namespace Go.Proofs.YtknfhphhcnbndaaGreatDoor.J
open Go.Proofs.YtknfhphhcnbndaaGreatDoor.B
open Go.RowKit

/-- What a format tells of the node number i; nothing, if there is none. -/
def fmtA (M : List V.Nd) (qf : ByteArray → ByteArray) (i : Int) (nm f : ByteArray) : ByteArray := if V.nodeEr M i = 0 then txt (fmtJ (V.nvAt M i) nm.data.toList (quotB qf (V.nvAt M i).kind nm (V.linkT M i)).data.toList f.data.toList) else ⟨#[]⟩
theorem format_any {M : List V.Nd} {p : Nat} (i : Int) (nm f : ByteArray) (qf : ByteArray → ByteArray) (v0 w : World) (hf : V.Has v0 p M w) (hG : GoodJ M) (ht : FTab w) (hq : (78 : UInt8) ∈ f.data.toList → QJ qf w) (hn : nm.size ≤ 60000) (hz : f.size ≤ 1000) (hqs : (quotB qf (V.nvAt M i).kind nm (V.linkT M i)).size ≤ 900000) :
    Calls Tryz.prog 39 #[.pointer (some ⟨p, 0, none⟩), .int .i64 i, .string nm, .string f] w fun e w' => e = .returned (.tuple #[.string (fmtA M qf i nm f), .int .i64 (V.nodeEr M i)]) ∧ Below w.heap.size w w' := by
  have hN : ∀ X : World, Below w.heap.size w X → Calls Tryz.prog 30 #[.pointer (some ⟨p, 0, none⟩), .int .i64 i] X fun e w' => e = .returned (.tuple #[P.nodeV (V.nvAt M i), .int .i64 (V.nodeEr M i)]) ∧ Below X.heap.size X w' := fun X hb => by
    have := V.has_nodeI i (hf.keep hb) hG.pos
    rw [V.nodeV_nv] at this
    exact this
  cases ha : V.atM M i with
  | none =>
    have he : V.nodeEr M i = 2 := by unfold V.nodeEr; rw [ha]
    rw [he] at hN
    have hA : fmtA M qf i nm f = ⟨#[]⟩ := by unfold fmtA; rw [if_neg (by rw [he]; decide)]
    rw [he, hA]
    exact formatNo_any _ i 2 _ nm f w (by decide) hN
  | some x =>
    have he : V.nodeEr M i = 0 := by unfold V.nodeEr; rw [ha]
    rw [he] at hN
    have hA : fmtA M qf i nm f = txt (fmtJ (V.nvAt M i) nm.data.toList (quotB qf (V.nvAt M i).kind nm (V.linkT M i)).data.toList f.data.toList) := by unfold fmtA; rw [if_pos he]
    rw [he, hA]
    refine formatOk_any _ i (V.linkE M i) _ nm _ f qf w hN (fun X hb => (V.has_link i (hf.keep hb) hG.pos).mono ?_) ht (hG.num ha) hq hn (Nat.le_trans (hG.text i) (by decide)) hz hqs
    rintro e w' ⟨rfl, rfl⟩
    exact ⟨rfl, Below.refl _ _⟩
theorem new_fmt (n : P.Nv) (h : n.mode = 493) (qt : By) : fmtJ n [114] qt [37, 110, 32, 37, 97] = [114, 32, 55, 53, 53] := by
  unfold fmtJ
  rw [S.fmtL_told _ _ (show oneJ n [114] qt 110 = some [114] from rfl), S.fmtL_plain _ _ (by decide), S.fmtL_told _ _ (show oneJ n [114] qt 97 = some (octL n.mode) from rfl), S.fmtL_nil, h]
  decide +kernel

set_option maxHeartbeats 2000000 in
theorem awoken_any (w : World) (ht : FTab w) : Calls Tryz.prog 13 #[] w fun e w' => e = .returned (.bool true) ∧ Below w.heap.size w w' := by
  have HT := Lib.hid ht
  have HN := Lib.hid (V.new_any w)
  have hA : fmtA V.newM id 0 ⟨#[114]⟩ ⟨#[37, 110, 32, 37, 97]⟩ = ⟨#[114, 32, 55, 53, 53]⟩ := by
    unfold fmtA
    rw [if_pos (by decide +kernel)]
    have := new_fmt (V.nvAt V.newM 0) (by decide +kernel) (quotB id (V.nvAt V.newM 0).kind ⟨#[114]⟩ (V.linkT V.newM 0)).data.toList
    show txt (fmtJ _ [114] _ [37, 110, 32, 37, 97]) = _
    rw [this]
    rfl
  have he : V.nodeEr V.newM 0 = 0 := by decide +kernel
  have HF := Lib.hid (fun (p : Nat) (X : World) (h : V.Has w p V.newM X) => format_any 0 ⟨#[114]⟩ ⟨#[37, 110, 32, 37, 97]⟩ id w X h good_new (HT.out.keep h.below) (fun q => absurd q (by decide +kernel)) (by decide) (by decide) (by decide +kernel))
  rw [hA, he] at HF
  clear ht hA he
  go_enter Tryz.func13, Tryz.ntmps13
  go_wp2_with (first
    | (go_at_call 34; refine HN.out.mono ?_; rintro e w2 ⟨p, rfl, H2⟩; have HH2 := Lib.hid H2; clear H2)
    | (go_at_call 39; refine (HF.out _ _ HH2.out).mono ?_; rintro e w3 ⟨rfl, hb⟩; have HB3 := Lib.hid (HH2.out.below.trans (hb.mono HH2.out.below.size)); clear hb))
  go_ret
  exact ⟨rfl, HB3.out⟩
end Go.Proofs.YtknfhphhcnbndaaGreatDoor.J

namespace Go.Proofs.YtknfhphhcnbndaaGreatDoor.J
open Go.Proofs.YtknfhphhcnbndaaGreatDoor.B

/-- What is told of a device. -/
structure Rw where
  dev : Int
  all : Int
  used : Int
  left : Int
  pct : Int
  at_ : ByteArray
def rwC (r : Rw) : List Value := [.int .i64 r.dev, .int .i64 r.all, .int .i64 r.used, .int .i64 r.left, .int .i64 r.pct, .string r.at_]
theorem rwC_len (r : Rw) : (rwC r).length = 6 := rfl
theorem rwC_one (r : Rw) : ∀ u ∈ rwC r, u.oneCell' = true := fun u hu => by
  simp only [rwC, List.mem_cons, List.mem_nil_iff, or_false] at hu
  rcases hu with rfl | rfl | rfl | rfl | rfl | rfl
  all_goals rfl
structure OkR (r : Rw) : Prop where
  dev : I64 r.dev
  all : I64 r.all
  used : I64 r.used
  left : I64 r.left
  pct : I64 r.pct
  at_ : r.at_.size ≤ 1000000
abbrev Row6 := Nat → ByteArray
def textsJ (r : Rw) : Row6
  | 0 => txt (Lib.itoa r.dev)
  | 1 => txt (Lib.itoa r.all)
  | 2 => txt (Lib.itoa r.used)
  | 3 => txt (Lib.itoa r.left)
  | 4 => txt (Lib.itoa r.pct) ++ ⟨#[37]⟩
  | _ => r.at_
def headsJ : Row6
  | 0 => ⟨#[68, 101, 118, 105, 99, 101]⟩
  | 1 => ⟨#[49, 75, 45, 98, 108, 111, 99, 107, 115]⟩
  | 2 => ⟨#[85, 115, 101, 100]⟩
  | 3 => ⟨#[65, 118, 97, 105, 108, 97, 98, 108, 101]⟩
  | 4 => ⟨#[85, 115, 101, 37]⟩
  | _ => ⟨#[77, 111, 117, 110, 116, 101, 100]⟩
def rowsJ (R : List Rw) : List Row6 := headsJ :: R.map textsJ
/-- A row's texts as an array's cells. -/
def r6 (r : Row6) : List Value := [.string (r 0), .string (r 1), .string (r 2), .string (r 3), .string (r 4), .string (r 5)]
theorem r6_len (r : Row6) : (r6 r).length = 6 := rfl
theorem six_cases {c : Nat} (h : c < 6) : c = 0 ∨ c = 1 ∨ c = 2 ∨ c = 3 ∨ c = 4 ∨ c = 5 := by omega
theorem r6_get (r : Row6) {c : Nat} (h : c < 6) : (r6 r)[c]? = some (.string (r c)) := by
  rcases six_cases h with rfl | rfl | rfl | rfl | rfl | rfl <;> rfl
/-- How wide a column is. -/
def wideJ (rs : List Row6) (c : Nat) : Nat := rs.foldl (fun m r => max m (r c).size) 0
theorem fold_ge (c : Nat) : ∀ (rs : List Row6) (m : Nat), m ≤ rs.foldl (fun m r => max m (r c).size) m
  | [], m => Nat.le_refl _
  | x :: t, m => Nat.le_trans (Nat.le_max_left _ _) (fold_ge c t (max m (x c).size))
theorem wide_ge {rs : List Row6} {r : Row6} {c : Nat} (h : r ∈ rs) : (r c).size ≤ wideJ rs c := by
  have key : ∀ (rs : List Row6) (m : Nat), r ∈ rs → (r c).size ≤ rs.foldl (fun m r => max m (r c).size) m := fun rs => by
    induction rs with
    | nil => intro m h; cases h
    | cons x t ih =>
      intro m h
      rw [List.foldl_cons]
      rcases List.mem_cons.1 h with rfl | h
      · have e := fold_ge c t (max m (r c).size)
        have := Nat.le_max_right m (r c).size
        omega
      · exact ih _ h
  exact key rs 0 h
theorem wide_le {rs : List Row6} {c K : Nat} (h : ∀ r ∈ rs, (r c).size ≤ K) : wideJ rs c ≤ K := by
  have key : ∀ (rs : List Row6) (m : Nat), m ≤ K → (∀ r ∈ rs, (r c).size ≤ K) → rs.foldl (fun m r => max m (r c).size) m ≤ K := fun rs => by
    induction rs with
    | nil => intro m h _; exact h
    | cons x t ih =>
      intro m hm h
      rw [List.foldl_cons]
      exact ih _ (Nat.max_le.2 ⟨hm, h x List.mem_cons_self⟩) fun r hr => h r (List.mem_cons_of_mem _ hr)
  exact key rs 0 (Nat.zero_le _) h
def padL (c w : Nat) (t : ByteArray) : ByteArray := if c = 0 then t ++ N.blankS (w - t.size) else if c < 5 then N.blankS (w - t.size) ++ t else t
def joinJ (l : List ByteArray) : ByteArray := ⟨(Lib.join (l.map fun n => n.data.toList) [32]).toArray⟩
def colsJ (w : Nat → Nat) (r : Row6) : List ByteArray := [padL 0 (w 0) (r 0), padL 1 (w 1) (r 1), padL 2 (w 2) (r 2), padL 3 (w 3) (r 3), padL 4 (w 4) (r 4), padL 5 (w 5) (r 5)]
def lineJ (w : Nat → Nat) (r : Row6) : ByteArray := joinJ (colsJ w r)
def tableJ (R : List Rw) : List ByteArray := (rowsJ R).map (lineJ (wideJ (rowsJ R)))
theorem table_len (R : List Rw) : (tableJ R).length = R.length + 1 := by unfold tableJ rowsJ; simp
theorem head_size : ∀ c, (headsJ c).size ≤ 9
  | 0 | 1 | 2 | 3 | 4 => by decide
  | _ + 5 => by show (⟨#[77, 111, 117, 110, 116, 101, 100]⟩ : ByteArray).size ≤ 9; decide
theorem text_size {r : Rw} (h : OkR r) {c : Nat} (hc : c < 5) : (textsJ r c).size ≤ 22 := by
  have a1 := itoa_len h.dev
  have a2 := itoa_len h.all
  have a3 := itoa_len h.used
  have a4 := itoa_len h.left
  have a5 := itoa_len h.pct
  rcases six_cases (show c < 6 by omega) with rfl | rfl | rfl | rfl | rfl | rfl
  · show (txt (Lib.itoa r.dev)).size ≤ 22; rw [txt_size]; omega
  · show (txt (Lib.itoa r.all)).size ≤ 22; rw [txt_size]; omega
  · show (txt (Lib.itoa r.used)).size ≤ 22; rw [txt_size]; omega
  · show (txt (Lib.itoa r.left)).size ≤ 22; rw [txt_size]; omega
  · show (txt (Lib.itoa r.pct) ++ ⟨#[37]⟩).size ≤ 22; rw [ByteArray.size_append, txt_size]; show _ + 1 ≤ 22; omega
  · omega
theorem rows_size {R : List Rw} (h : ∀ r ∈ R, OkR r) {c : Nat} (hc : c < 5) : ∀ r ∈ rowsJ R, (r c).size ≤ 22 := fun r hr => by
  unfold rowsJ at hr
  rcases List.mem_cons.1 hr with rfl | hr
  · have := head_size c; omega
  · obtain ⟨x, hx, rfl⟩ := List.mem_map.1 hr
    exact text_size (h x hx) hc
theorem rows_size5 {R : List Rw} (h : ∀ r ∈ R, OkR r) : ∀ r ∈ rowsJ R, (r 5).size ≤ 1000000 := fun r hr => by
  unfold rowsJ at hr
  rcases List.mem_cons.1 hr with rfl | hr
  · have := head_size 5; omega
  · obtain ⟨x, hx, rfl⟩ := List.mem_map.1 hr
    exact (h x hx).at_
theorem lack_small {a b : Nat} (ha : a ≤ 10000) (hb : b ≤ 10000) : N.lackN (a : Int) (b : Int) = b - a := by
  unfold N.lackN N.clampZ
  omega
/-- A line, put together column by column. -/
theorem line_is (w : Nat → Nat) (r : Row6) : lineJ w r = r 0 ++ N.blankS (w 0 - (r 0).size) ++ (⟨#[32]⟩ ++ N.blankS (w 1 - (r 1).size) ++ r 1) ++ (⟨#[32]⟩ ++ N.blankS (w 2 - (r 2).size) ++ r 2) ++ (⟨#[32]⟩ ++ N.blankS (w 3 - (r 3).size) ++ r 3) ++ (⟨#[32]⟩ ++ N.blankS (w 4 - (r 4).size) ++ r 4) ++ ⟨#[32]⟩ ++ r 5 := by
  have e : ∀ a b : ByteArray, (a ++ b).data.toList = a.data.toList ++ b.data.toList := fun a b => by simp [ByteArray.data_append]
  have x : ∀ s t : ByteArray, s.data.toList = t.data.toList → s = t := fun s t h => by
    cases s; cases t
    simp only [ByteArray.mk.injEq]
    exact Array.toList_inj.1 h
  apply x
  unfold lineJ joinJ colsJ padL
  simp [e, Lib.join, Lib.joinTail]
end Go.Proofs.YtknfhphhcnbndaaGreatDoor.J

namespace Go.Proofs.YtknfhphhcnbndaaGreatDoor.J
open Go.Proofs.YtknfhphhcnbndaaGreatDoor.B

/-- The blocks of a device's nodes. -/
def blksJ (M : List V.Nd) (d : Int) : List Int := (M.filter fun n => n.dev == d).map (·.blocks)
theorem blks_snoc (M : List V.Nd) (d : Int) (n : V.Nd) : blksJ (M ++ [n]) d = blksJ M d ++ if n.dev = d then [n.blocks] else [] := by
  unfold blksJ
  rw [List.filter_append, List.map_append]
  by_cases h : n.dev = d
  · rw [if_pos h, List.filter_cons_of_pos (by simpa using h)]
    rfl
  · rw [if_neg h, List.filter_cons_of_neg (by simpa using h)]
    rfl
theorem blks_len (M : List V.Nd) (d : Int) : (blksJ M d).length ≤ M.length := by
  unfold blksJ
  rw [List.length_map]
  exact List.length_filter_le _ _
theorem blks_bd {M : List V.Nd} (h : OkM M) (d : Int) : ∀ x ∈ blksJ M d, 0 ≤ x ∧ x ≤ 9223372036854775807 := fun x hx => by
  obtain ⟨n, hn, rfl⟩ := List.mem_map.1 hx
  exact (h n (List.mem_filter.1 hn).1).blk
theorem cut_in {x : Int} (h0 : -9223372036854775808 ≤ x) (h1 : x ≤ 9223372036854775807) : N.cutZ x = x := by
  unfold N.cutZ
  rw [if_neg (by omega), if_neg (by omega)]
theorem add_nn : ∀ l : List Int, (∀ x ∈ l, 0 ≤ x) → 0 ≤ N.addAll l := by
  have key : ∀ (l : List Int) (s : Int), 0 ≤ s → (∀ x ∈ l, 0 ≤ x) → 0 ≤ l.foldl (fun s x => N.cutZ (s + x)) s := fun l => by
    induction l with
    | nil => intro s h _; exact h
    | cons x t ih =>
      intro s hs h
      have hx := h x List.mem_cons_self
      refine ih _ ?_ fun y hy => h y (List.mem_cons_of_mem _ hy)
      show 0 ≤ N.cutZ (s + x)
      have hy := N.cutZ_bd (s + x)
      have : N.cutZ (s + x) = s + x ∨ N.cutZ (s + x) = 9223372036854775807 := by
        unfold N.cutZ
        by_cases q : 9223372036854775807 < s + x
        · rw [if_pos q]; exact .inr rfl
        · rw [if_neg q, if_neg (by omega)]; exact .inl rfl
      rcases this with q | q <;> omega
  exact fun l h => key l 0 (Int.le_refl _) h
theorem add_two (a b : Int) (h0 : -9223372036854775808 ≤ a) (h1 : a ≤ 9223372036854775807) : N.addAll [a, b] = N.cutZ (a + b) := by
  show N.cutZ (N.cutZ (0 + a) + b) = _
  rw [Int.zero_add, cut_in h0 h1]
def usedJ (M : List V.Nd) (d : Int) : Int := N.ceilZ (N.addAll (blksJ M d)) 2
theorem used_bd {M : List V.Nd} (h : OkM M) (d : Int) : 0 ≤ usedJ M d ∧ usedJ M d ≤ 9223372036854775807 := by
  have h1 := N.addAll_bd (blksJ M d)
  have h2 := add_nn (blksJ M d) fun x hx => (blks_bd h d x hx).1
  unfold usedJ N.ceilZ
  split <;> omega
open Classical in
/-- Where a directory is, if it has a real path. -/
noncomputable def whereJ (M : List V.Nd) (f : Int) : ByteArray := if h : ∃ ns, V.DirN M f ns then V.pathOf h.choose else ⟨#[63]⟩
theorem where_is {M : List V.Nd} {f : Int} {ns : List ByteArray} (h : V.DirN M f ns) : whereJ M f = V.pathOf ns := by
  have hx : ∃ ns, V.DirN M f ns := ⟨ns, h⟩
  unfold whereJ
  rw [dif_pos hx]
  rw [V.dirN_det hx.choose_spec h]
theorem where_no {M : List V.Nd} {f : Int} (h : ∀ ns, ¬ V.DirN M f ns) : whereJ M f = ⟨#[63]⟩ := by
  unfold whereJ
  rw [dif_neg fun ⟨ns, q⟩ => h ns q]
/-- A device's row. -/
noncomputable def rowJ (M : List V.Nd) (all d f : Int) : Rw := ⟨d, all, usedJ M d, max (all - usedJ M d) 0, N.pctZ (usedJ M d) (N.cutZ (usedJ M d + max (all - usedJ M d) 0)), whereJ M f⟩
/-- The rows of the first devices, by their firsts. -/
noncomputable def rowsL (M : List V.Nd) (all : Int) : List Int → Nat → List Rw
  | [], _ => []
  | f :: t, i => rowJ M all ((i : Int) + 1) f :: rowsL M all t (i + 1)
theorem rowsL_len (M : List V.Nd) (all : Int) : ∀ (l : List Int) (i : Nat), (rowsL M all l i).length = l.length
  | [], _ => rfl
  | f :: t, i => by rw [rowsL, List.length_cons, rowsL_len M all t (i + 1), List.length_cons]
theorem rowsL_snoc (M : List V.Nd) (all f : Int) : ∀ (l : List Int) (i : Nat), rowsL M all (l ++ [f]) i = rowsL M all l i ++ [rowJ M all (((i + l.length : Nat) : Int) + 1) f]
  | [], i => rfl
  | x :: t, i => by
    rw [List.cons_append, rowsL, rowsL_snoc M all f t (i + 1), rowsL, List.cons_append, List.length_cons, show i + 1 + t.length = i + (t.length + 1) by omega]
noncomputable def allRows (M : List V.Nd) (all : Int) : List Rw := rowsL M (max all 0) (V.devL M 0) 0

/-! ### the firsts -/
theorem dev_ge : ∀ (M : List V.Nd) (k : Nat), ∀ x ∈ V.devL M k, (k : Int) ≤ x ∧ x < ((k + M.length : Nat) : Int)
  | [], k, x, h => by cases h
  | n :: r, k, x, h => by
    rw [V.devL] at h
    have hl : (n :: r).length = r.length + 1 := rfl
    rcases List.mem_append.1 h with h | h
    · split at h
      · obtain rfl := List.mem_singleton.1 h; omega
      · cases h
    · have := dev_ge r (k + 1) x h
      omega
theorem dev_apart : ∀ (M : List V.Nd) (k : Nat), (V.devL M k).Pairwise (· ≠ ·)
  | [], k => List.Pairwise.nil
  | n :: r, k => by
    rw [V.devL]
    refine List.pairwise_append.2 ⟨?_, dev_apart r (k + 1), fun a ha b hb => ?_⟩
    · split
      · exact List.pairwise_singleton _ _
      · exact List.Pairwise.nil
    · have := dev_ge r (k + 1) b hb
      split at ha
      · obtain rfl := List.mem_singleton.1 ha; omega
      · cases ha
theorem dev_ino : ∀ (M : List V.Nd) (k : Nat) (x : Int), x ∈ V.devL M k → ∃ (j : Nat) (n : V.Nd), x = ((k + j : Nat) : Int) ∧ M[j]? = some n ∧ n.ino = 1
  | [], k, x, h => by cases h
  | n :: r, k, x, h => by
    rw [V.devL] at h
    rcases List.mem_append.1 h with h | h
    · split at h
      · rename_i q
        obtain rfl := List.mem_singleton.1 h
        exact ⟨0, n, rfl, rfl, q⟩
      · cases h
    · obtain ⟨j, m, e, hm, hi⟩ := dev_ino r (k + 1) x h
      exact ⟨j + 1, m, by rw [e]; congr 1; omega, by simpa using hm, hi⟩
/-- The first of the device number i + 1. -/
theorem dev_first {M : List V.Nd} (H : V.DevInv M) {i : Nat} {f : Int} (h : (V.devL M 0)[i]? = some f) : ∃ (k : Nat) (n : V.Nd), f = (k : Int) ∧ M[k]? = some n ∧ n.ino = 1 ∧ n.dev = (i : Int) + 1 := by
  obtain ⟨k, n, e, hn, hi⟩ := dev_ino M 0 f (List.mem_of_getElem? h)
  rw [Nat.zero_add] at e
  subst e
  obtain ⟨d1, d2, _, d4⟩ := H k n hn
  refine ⟨k, n, rfl, hn, hi, ?_⟩
  obtain ⟨p, hp⟩ : ∃ p, (V.devL M 0)[(n.dev - 1).toNat]? = some p := ⟨_, List.getElem?_eq_getElem (by omega)⟩
  have e2 := (d4 p hp).1 hi
  subst e2
  have : (n.dev - 1).toNat = i := by
    apply Classical.byContradiction
    intro q
    have hpw := dev_apart M 0
    rw [List.pairwise_iff_getElem] at hpw
    obtain ⟨l1, e1⟩ := List.getElem?_eq_some_iff.1 h
    obtain ⟨l2, e2⟩ := List.getElem?_eq_some_iff.1 hp
    rcases Nat.lt_or_gt_of_ne q with q | q
    · exact hpw _ _ l2 l1 q (by rw [e1, e2])
    · exact hpw _ _ l1 l2 q (by rw [e1, e2])
  omega
end Go.Proofs.YtknfhphhcnbndaaGreatDoor.J

namespace Go.Proofs.YtknfhphhcnbndaaGreatDoor.V
open Go.Proofs.YtknfhphhcnbndaaGreatDoor.P
open Go.RowKit Go.Shelf

theorem strs_enc (ns : List ByteArray) : (ns.map fun n => n.data.toList).map encStr = strs ns := by
  unfold strs
  rw [List.map_map]
  congr 1
theorem rev_any (v : Value) (ns : List ByteArray) (b : Nat) (w : World) (H : w.ownsRow b 9 1 v ns.length (strs ns)) (hl : ns.length ≤ 1000000) :
    Calls Tryz.prog 192 #[v] w fun e w' => e = .returned (.tuple #[]) ∧ w'.ownsRow b 9 1 v ns.reverse.length (strs ns.reverse) ∧ ∀ w0, w0.heap.size ≤ b → Below w0.heap.size w0 w → Below w0.heap.size w0 w' := by
  by_cases hv : v = .slice none 0 0
  · subst hv
    have h0 : ns = [] := by
      cases ns with
      | nil => rfl
      | cons x r =>
        obtain ⟨g, cap, h, _⟩ := owns_some H (by simp)
        cases h
    subst h0
    refine (Tryz.slices_Reverse_string_empty none 0 w).mono ?_
    rintro e w' ⟨rfl, rfl⟩
    exact ⟨rfl, H, fun _ _ h => h⟩
  · have H' : w.ownsRow b 9 1 v ns.length ((ns.map fun n => n.data.toList).map encStr) := by rw [strs_enc]; exact H
    obtain ⟨g, cap, rfl, hg, _, _, _, hlen, hh⟩ := Lib.holds_of_ownsRow H' hv
    have hle : (ns.map fun n => n.data.toList).length = ns.length := List.length_map ..
    have := Tryz.slices_Reverse_string g 0 cap (ns.map fun n => n.data.toList) w hh (by omega)
    rw [hle] at this
    refine this.mono ?_
    rintro e w' ⟨rfl, q, rfl⟩
    have ho := Lib.ownsRow_putRow (q := q) (k := ns.length) (ys := (ns.map fun n => n.data.toList).reverse) H' (by simp) (Nat.le_refl _)
    have e : ((ns.map fun n => n.data.toList).reverse.take ns.length).map encStr = strs ns.reverse := by
      rw [List.take_of_length_le (by simp), ← List.map_reverse, strs_enc]
    rw [e] at ho
    refine ⟨rfl, ?_, fun w0 hb hw => Lib.below_putRow hw (Nat.le_trans hb hg)⟩
    rw [List.length_reverse]
    exact ho
theorem join_any (v : Value) (ns : List ByteArray) (b : Nat) (w : World) (H : w.ownsRow b 9 1 v ns.length (strs ns)) (hl : ns.length ≤ 1000000) (hj : (Lib.join (ns.map fun n => n.data.toList) [47]).length ≤ 256000000) :
    Calls Tryz.prog 102 #[v, .string ⟨#[47]⟩] w fun e w' => e = .returned (.string ⟨(Lib.join (ns.map fun n => n.data.toList) [47]).toArray⟩) ∧ Below w.heap.size w w' := by
  by_cases hv : ns = []
  · subst hv
    obtain ⟨o, c, rfl⟩ := owns_form H
    refine (Tryz.strings_Join_none o c ⟨#[47]⟩ w).mono ?_
    rintro e w' ⟨rfl, rfl⟩
    exact ⟨rfl, Below.refl _ _⟩
  · obtain ⟨g, cap, rfl, hc, _⟩ := owns_some H (List.length_pos_iff.2 hv)
    refine Tryz.strings_Join g 0 cap ns ⟨#[47]⟩ w (fun j x hx => ?_) ?_ (by omega) hc (by show (Lib.join _ [47]).length ≤ _; omega)
    · rw [Nat.zero_add]
      refine owns_cell H ?_
      unfold strs
      rw [List.getElem?_map, hx]
      rfl
    · exact (H.lt g rfl).2
end Go.Proofs.YtknfhphhcnbndaaGreatDoor.V

namespace Go.Proofs.YtknfhphhcnbndaaGreatDoor.V
open Go.Proofs.YtknfhphhcnbndaaGreatDoor.P
open Go.RowKit

def DirR (M : List Nd) (id : Int) (s : ByteArray) (er : Int) : Prop := (er = 0 ∧ ∃ ns, DirN M id ns ∧ s = pathOf ns ∧ s.size ≤ 256 * M.length + 1) ∨ (er ≠ 0 ∧ s = ⟨#[]⟩ ∧ ∀ ns, ¬ DirN M id ns)
/-- What the way upwards holds. -/
def UpRel (M : List Nd) (id : Int) (w : World) (g : Nat) (v8 v9 : Value) (wr : World) : Prop :=
  ∃ (i : Int) (rev : List ByteArray), v9 = .int .i64 i ∧ Hid (0 ≤ i ∧ i.toNat = g) ∧ Hid (DirAt M id i rev) ∧ Hid (kindM M i = 2 ∧ overI M i = i ∧ (∀ n ∈ rev, goodB n = true) ∧ rev.length + g ≤ M.length) ∧ Hid (wr.ownsRow w.heap.size 9 1 v8 rev.length (strs rev)) ∧ Hid (Below w.heap.size w wr)
/-- What the way through the entries holds. -/
def EntRel (M : List Nd) (i : Int) (l : List (ByteArray × Int)) (x8 : Value) (w7 : World) (g : Nat) (v8 v9 v43 : Value) (wr : World) : Prop :=
  ∃ k : Nat, v8 = x8 ∧ v9 = .int .i64 i ∧ v43 = .int .i64 (k : Int) ∧ k + g = l.length ∧ Hid (firstN M i l = firstN M i (l.drop k)) ∧ Hid (Below w7.heap.size w7 wr)
theorem owns_to {w w' : World} {b : Nat} {e : TypeId} {size n : Nat} {v : Value} {xs : List Value} (h : w.ownsRow b e size v n xs) (hb : Below w.heap.size w w') : w'.ownsRow b e size v n xs := owns_at h fun k hk => hb.block k (h.lt k hk).2

set_option maxRecDepth 100000 in
set_option maxHeartbeats 8000000 in
theorem dirE_any {M : List Nd} {p : Nat} (id : Int) (v0 w : World) (hf : Has v0 p M w) (hn : 0 < M.length) (hM : M.length ≤ 1000000) (hE : FewE M) (hR : RI M) (hD : DU M) (ho : overI M id = id) :
    Calls Tryz.prog 140 #[.pointer (some ⟨p, 0, none⟩), .int .i64 id] w fun e w' => ∃ s er, e = .returned (.tuple #[.string s, .int .i64 er]) ∧ (DirR M id s er ∧ (er ≠ 0 → DirEr M id er)) ∧ Below w.heap.size w w' := by
  obtain ⟨i0, hi0, hz0, hz1, hz2⟩ := info_parts infoStr
  have HF := Lib.hid (fun W (hb : Below w.heap.size w W) => hf.keep hb)
  have HN := Lib.hid (has_nodeI id hf hn)
  rw [nodeV_nv, known_nv] at HN
  have HK := Lib.hid (show kindM M id = (nvAt M id).kind from rfl)
  have HR := Lib.hid hR
  have HD := Lib.hid hD
  have HE := Lib.hid hE
  have HO0 := Lib.hid ho
  clear hf ho hR hD hE
  by_cases hk : kindM M id = 2
  · obtain ⟨hid0, hid1⟩ := kind_lt hk
    have HK2 := Lib.hid hk
    have dk : ((nvAt M id).kind != 2) = false := by rw [← HK.out, hk]; rfl
    clear hk
    go_enter Tryz.func140, Tryz.ntmps140
    go_wp2
    go_step3
    go_wp2_with (go_at_call 30; refine HN.out.mono ?_; rintro e w2 ⟨rfl, hb⟩; have HB := Lib.hid hb; clear hb)
    go_step3
    go_wp2
    go_loopg [8, 9] id.toNat (UpRel M id w)
    case atStart => exact ⟨id, [], rfl, Lib.hid ⟨hid0, rfl⟩, Lib.hid (dirAt_self M id), Lib.hid ⟨HK2.out, HO0.out, (by intro n h; cases h), by simp; omega⟩, Lib.hid (World.ownsRow_nil _ _ _ _), Lib.hid (HB.out.alloc HB.out.size _)⟩
    case round =>
      obtain ⟨i, rev, rfl, HI, HA, HS, HO, HBr⟩ := hrel
      clear HN HB dk
      by_cases hi : i = 0
      · have d0 : (i != 0) = false := by rw [hi]; rfl
        have hgd : ∀ n ∈ rev.reverse, goodB n = true := fun n h => HS.out.2.2.1 n (List.mem_reverse.1 h)
        have hrl : rev.length ≤ M.length := by have := HS.out.2.2.2; omega
        have hjl : (Lib.join (rev.reverse.map fun n => n.data.toList) [47]).length ≤ 256000000 := by
          have := join_len hgd
          rw [List.length_reverse] at this
          omega
        have HRv := Lib.hid (rev_any u8 rev w.heap.size wr HO.out (by omega))
        have HJn := Lib.hid (fun (W : World) (h : W.ownsRow w.heap.size 9 1 u8 rev.reverse.length (strs rev.reverse)) => join_any u8 rev.reverse _ W h (by rw [List.length_reverse]; omega) hjl)
        have hJz : (⟨(Lib.join (rev.reverse.map fun n => n.data.toList) [47]).toArray⟩ : ByteArray).size ≤ 256000000 := by
          rw [← size_list]
          simpa using hjl
        have HP := Lib.hid (path_join rev.reverse)
        have HZ := Lib.hid (show (pathOf rev.reverse).size ≤ 256 * M.length + 1 from by
          have := path_len hgd
          rw [List.length_reverse] at this
          omega)
        clear hjl hgd
        obtain ⟨J, hJ⟩ : ∃ J, (⟨(Lib.join (rev.reverse.map fun n => n.data.toList) [47]).toArray⟩ : ByteArray) = J := ⟨_, rfl⟩
        simp only [hJ] at HJn HP hJz
        clear hJ
        have HI0 := Lib.hid hi
        clear hi
        have hone : (⟨#[47]⟩ : ByteArray).size = 1 := rfl
        go_wp2_with (first
          | (go_at_call 192; refine HRv.out.mono ?_; rintro e w3 ⟨rfl, ho3, hb3⟩; have HO3 := Lib.hid ho3; have HB3 := Lib.hid (hb3 w (Nat.le_refl _) HBr.out); clear ho3 hb3)
          | (go_at_call 102; refine (HJn.out _ HO3.out).mono ?_; rintro e w4 ⟨rfl, hb4⟩; have HB4 := Lib.hid (below_two HB3.out hb4); clear hb4))
        try rw [Exit.noGoto_ret]
        go_ret2
        have hA := HA.out
        rw [HI0.out] at hA
        exact ⟨_, _, rfl, ⟨.inl ⟨rfl, rev.reverse, dirAt_end hA, HP.out, (by rw [HP.out]; exact HZ.out)⟩, fun h => absurd rfl h⟩, HB4.out⟩
      · have d0 : (i != 0) = true := by simpa using hi
        obtain ⟨a, ha⟩ : ∃ a, overI M (upI M i) = a := ⟨_, rfl⟩
        have HAe := Lib.hid ha
        have HI0 := Lib.hid hi
        have HUp := Lib.hid (has_up i (HF.out wr HBr.out) hn)
        have HOv := Lib.hid (has_over (upI M i) (HF.out wr HBr.out) hn)
        rw [ha] at HOv
        have HL := Lib.hid (has_list a (HF.out wr HBr.out) hn HE.out)
        clear ha hi
        by_cases h0 : listE M a = 0
        · have HL0 := Lib.hid h0
          rw [h0] at HL
          have hll : (listL M a).length ≤ 1000000 := by
            unfold listL
            cases hat : atM M a with
            | none => exact Nat.zero_le _
            | some n =>
              dsimp only
              split
              · split
                · exact Nat.zero_le _
                · obtain ⟨k, _, hk⟩ := atM_some hat
                  exact HE.out n (List.mem_of_getElem? hk)
              · exact Nat.zero_le _
          obtain ⟨l, hle⟩ : ∃ l, listL M a = l := ⟨_, rfl⟩
          have HLe := Lib.hid hle
          rw [hle] at HL hll
          clear h0 hle
          go_wp2_with (first
            | (go_at_call 189; refine HUp.out.mono ?_; rintro e w3 ⟨rfl, hw⟩; subst hw)
            | (go_at_call 59; refine HOv.out.mono ?_; rintro e w4 ⟨rfl, hw⟩; subst hw)
            | (go_at_call 167; refine HL.out.mono ?_; rintro e w5 ⟨lx, rfl, ho5, hb5⟩; obtain ⟨o5, c5, rfl⟩ := owns_form ho5; have HO5 := Lib.hid ho5; have HB5 := Lib.hid hb5; clear ho5 hb5))
          have HG := Lib.hid (show ∃ G, G = gk from ⟨_, rfl⟩)
          go_loopg [8, 9, 43] l.length (EntRel M i l u8 w5)
          case atStart => exact ⟨0, rfl, rfl, rfl, by omega, Lib.hid rfl, Lib.hid (Below.refl _ _)⟩
          case round =>
            obtain ⟨k, rfl, rfl, rfl, hkg, HFi, HB7⟩ := hrel
            have HBw := Lib.hid (below_two HBr.out (below_two HB5.out HB7.out))
            by_cases hlt : k < l.length
            · have e1 : decide ((k : Int) < (l.length : Int)) = true := decide_eq_true (by omega)
              obtain ⟨x, hx⟩ : ∃ x, l[k]? = some x := ⟨_, List.getElem?_eq_getElem hlt⟩
              have HO7 := Lib.hid (owns_to HO5.out HB7.out)
              obtain ⟨gg, cg, e2, _, _⟩ := owns_some HO7.out (by omega)
              simp only [Value.slice.injEq] at e2
              obtain ⟨rfl, _, rfl⟩ := e2
              have a0 : wr.cell? ⟨gg, k * 2, none⟩ = some (.string x.1) := owns_cell HO7.out (entCells_get l k x hx).1
              have a1 : wr.cell? ⟨gg, k * 2 + 1, none⟩ = some (.int .i64 x.2) := owns_cell HO7.out (entCells_get l k x hx).2
              have HFx := Lib.hid (first_drop hx HFi.out)
              clear hx HFi
              go_upto_region 14 with fail
              have HXx := Lib.hid (heap_alloc_new wr (.cells #[.string x.1, .int .i64 x.2] 177))
              have HBx := Lib.hid (show Below wr.heap.size wr (wr.alloc (.cells #[.string x.1, .int .i64 x.2] 177)) from (Below.refl _ _).alloc (Nat.le_refl _) _)
              generalize wr.alloc (.cells #[.string x.1, .int .i64 x.2] 177) = wx at HXx HBx ⊢
              have c0 : wx.cell? ⟨wr.heap.size, 0, none⟩ = some (.string x.1) := by rw [cell_of_row _ _ _ _ _ _ HXx.out]; rfl
              have c1 : wx.cell? ⟨wr.heap.size, 1, none⟩ = some (.int .i64 x.2) := by rw [cell_of_row _ _ _ _ _ _ HXx.out]; rfl
              have HBxw := Lib.hid (below_two HBw.out HBx.out)
              have HOn := Lib.hid (owns_to (owns_to (owns_to HO.out HB5.out) HB7.out) HBx.out)
              have HOx := Lib.hid (has_over x.2 (HF.out wx HBxw.out) hn)
              clear a0 a1
              generalize wr.heap.size = bx at c0 c1 HXx ⊢
              by_cases hit : overI M x.2 = i
              · rw [hit] at HOx
                have HF1 := Lib.hid (show firstN M i l = some x from by rw [HFx.out, if_pos hit])
                have HFy := Lib.hid (show firstN M i (listL M (overI M (upI M i))) = some (x.1, x.2) from by rw [HAe.out, HLe.out, HF1.out])
                obtain ⟨s0, s1, s2⟩ := step_lt HR.out HS.out.1 HFy.out
                rw [HAe.out] at s0 s1
                have HM := Lib.hid (show rev.length + 1 ≤ maxLen from by unfold maxLen; have := HS.out.2.2.2; omega)
                have hrl : rev.length ≤ 1000000 := by have := HS.out.2.2.2; omega
                have HA1 := Lib.hid (show DirAt M id a (rev ++ [x.1]) from by
                  have := dirAt_step HA.out HI0.out HS.out.1 (by rw [HAe.out]; exact HL0.out) HFy.out
                  rwa [HAe.out] at this)
                have HS1 := Lib.hid (show kindM M a = 2 ∧ overI M a = a ∧ (∀ n ∈ rev ++ [x.1], goodB n = true) ∧ (rev ++ [x.1]).length + a.toNat ≤ M.length from by
                  obtain ⟨q1, q2, q3, q4⟩ := HS.out
                  obtain ⟨r1, r2⟩ := HI.out
                  refine ⟨by rw [← HAe.out]; exact du_up HD.out q1, by rw [← HAe.out]; exact over_over HR.out _, fun n h => ?_, by rw [List.length_append, List.length_singleton]; omega⟩
                  rcases List.mem_append.1 h with z | z
                  · exact q3 n z
                  · obtain rfl : n = x.1 := by simpa using z
                    exact s2)
                have HI1 := Lib.hid (show (0 ≤ a ∧ a.toNat = a.toNat) ∧ a.toNat < i.toNat from ⟨⟨s0, rfl⟩, by omega⟩)
                clear s0 s1 s2 HFx hit
                have hwz : w.heap.size ≤ wx.heap.size := HBxw.out.size
                by_cases he : x.2 = i
                · have d1 : (x.2 == i) = true := beq_iff_eq.2 he
                  clear he HOx
                  go_upto_region 15 with fail
                  go_wp2_with (at_builtin; go_loud (refine wpList_append_own _ rfl (.tmp 59) (.tmp 62) 40 rfl w.heap.size 9 i0 (.string ⟨#[]⟩) 1 16 Tryz.underlying40 hi0 hz0 hz1 hz2 rfl (by decide) _ _ _ rfl (HOn.out.alloc _) ⟨wx.heap.size, 0, none⟩ 1 1 [.string x.1] rfl rfl (World.news_of_block (heap_alloc_new _ _)) (by intro u hu; simp at hu; subst hu; rfl) HM.out (by omega) (by simp; omega) ?_; intro v1 w1 hown1 hgrow hnil))
                  have HO1 := Lib.hid (show w1.ownsRow w.heap.size 9 1 v1 (rev ++ [x.1]).length (strs (rev ++ [x.1])) from by
                    unfold strs
                    rw [List.length_append, List.map_append]
                    exact hown1)
                  have HB1 := Lib.hid ((HBxw.out.alloc HBxw.out.size _).grown hgrow (by simp; have := HBxw.out.size; omega) (fun j hj => (HOn.out.lt j hj).1))
                  clear hown1 hgrow hnil
                  go_roundg a.toNat
                  case measure => have := HI.out; have := HI1.out; omega
                  case rel => exact ⟨a, rev ++ [x.1], rfl, Lib.hid ⟨HI1.out.1.1, rfl⟩, HA1, HS1, HO1, HB1⟩
                · have d1 : (x.2 == i) = false := beq_eq_false_iff_ne.2 he
                  clear he
                  go_upto_region 15 with (go_at_call 59; refine HOx.out.mono ?_; rintro e w8 ⟨rfl, hw⟩; subst hw)
                  go_wp2_with (at_builtin; go_loud (refine wpList_append_own _ rfl (.tmp 59) (.tmp 62) 40 rfl w.heap.size 9 i0 (.string ⟨#[]⟩) 1 16 Tryz.underlying40 hi0 hz0 hz1 hz2 rfl (by decide) _ _ _ rfl (HOn.out.alloc _) ⟨wx.heap.size, 0, none⟩ 1 1 [.string x.1] rfl rfl (World.news_of_block (heap_alloc_new _ _)) (by intro u hu; simp at hu; subst hu; rfl) HM.out (by omega) (by simp; omega) ?_; intro v1 w1 hown1 hgrow hnil))
                  have HO1 := Lib.hid (show w1.ownsRow w.heap.size 9 1 v1 (rev ++ [x.1]).length (strs (rev ++ [x.1])) from by
                    unfold strs
                    rw [List.length_append, List.map_append]
                    exact hown1)
                  have HB1 := Lib.hid ((HBxw.out.alloc HBxw.out.size _).grown hgrow (by simp; have := HBxw.out.size; omega) (fun j hj => (HOn.out.lt j hj).1))
                  clear hown1 hgrow hnil
                  go_roundg a.toNat
                  case measure => have := HI.out; have := HI1.out; omega
                  case rel => exact ⟨a, rev ++ [x.1], rfl, Lib.hid ⟨HI1.out.1.1, rfl⟩, HA1, HS1, HO1, HB1⟩
              · have HF2 := Lib.hid (show firstN M i l = firstN M i (l.drop (k + 1)) from by rw [HFx.out, if_neg hit])
                have d1 : (x.2 == i) = false := beq_eq_false_iff_ne.2 (fun q => hit (by rw [q]; exact HS.out.2.1))
                have d2 : (overI M x.2 == i) = false := beq_eq_false_iff_ne.2 hit
                clear HFx hit
                go_wp2_with (go_at_call 59; refine HOx.out.mono ?_; rintro e w8 ⟨rfl, hw⟩; subst hw)
                go_roundg (l.length - (k + 1))
                case measure => omega
                case rel => exact ⟨k + 1, rfl, rfl, by simp, by omega, HF2, Lib.hid (below_two HB7.out HBx.out)⟩
            · have e1 : decide ((k : Int) < (l.length : Int)) = false := decide_eq_false (by omega)
              have HNf := Lib.hid (show firstN M i (listL M (overI M (upI M i))) = none from by rw [HAe.out, HLe.out, HFi.out, List.drop_of_length_le (by omega)]; rfl)
              have HNo := Lib.hid (dirAt_no HA.out HI0.out (.inr HNf.out))
              go_wp2_with fail
              try rw [Exit.noGoto_ret]
              go_ret2
              exact ⟨_, _, rfl, ⟨.inr ⟨by decide, rfl, HNo.out⟩, fun _ => HA.out.2.2 _ (.lost HI0.out HS.out.1 (by rw [HAe.out]; exact HL0.out) HNf.out)⟩, HBw.out⟩
        · have HNo := Lib.hid (dirAt_no HA.out HI0.out (.inl (by rw [HAe.out]; exact h0)))
          have HE0 := Lib.hid h0
          have e0 : (listE M a != 0) = true := by simpa using h0
          clear h0
          go_wp2_with (first
            | (go_at_call 189; refine HUp.out.mono ?_; rintro e w3 ⟨rfl, hw⟩; subst hw)
            | (go_at_call 59; refine HOv.out.mono ?_; rintro e w4 ⟨rfl, hw⟩; subst hw)
            | (go_at_call 167; refine HL.out.mono ?_; rintro e w5 ⟨lx, rfl, ho5, hb5⟩; have HB5 := Lib.hid hb5; clear ho5 hb5))
          try rw [Exit.noGoto_ret]
          go_ret2
          exact ⟨_, _, rfl, ⟨.inr ⟨HE0.out, rfl, HNo.out⟩, fun _ => HA.out.2.2 _ (.list HI0.out HS.out.1 (by rw [HAe.out]) HE0.out)⟩, below_two HBr.out HB5.out⟩
  · have HK2 := Lib.hid (show ∀ ns, ¬ DirN M id ns from fun ns h => hk (dirN_kind HR.out h))
    have HKd := Lib.hid (show DirEr M id 3 from .kind hk)
    have dk : ((nvAt M id).kind != 2) = true := by rw [← HK.out]; simpa using hk
    clear hk
    go_enter Tryz.func140, Tryz.ntmps140
    go_wp2
    go_step3
    go_wp2_with (go_at_call 30; refine HN.out.mono ?_; rintro e w2 ⟨rfl, hb⟩; have HB := Lib.hid hb; clear hb)
    try rw [Exit.noGoto_ret]
    go_ret2
    exact ⟨_, _, rfl, ⟨.inr ⟨by decide, rfl, HK2.out⟩, fun _ => HKd.out⟩, HB.out.alloc HB.out.size _⟩
theorem dir_any {M : List Nd} {p : Nat} (id : Int) (v0 w : World) (hf : Has v0 p M w) (hn : 0 < M.length) (hM : M.length ≤ 1000000) (hE : FewE M) (hR : RI M) (hD : DU M) (ho : overI M id = id) :
    Calls Tryz.prog 140 #[.pointer (some ⟨p, 0, none⟩), .int .i64 id] w fun e w' => ∃ s er, e = .returned (.tuple #[.string s, .int .i64 er]) ∧ DirR M id s er ∧ Below w.heap.size w w' :=
  (dirE_any id v0 w hf hn hM hE hR hD ho).mono fun e w' ⟨s, er, h1, h2, h3⟩ => ⟨s, er, h1, h2.1, h3⟩
end Go.Proofs.YtknfhphhcnbndaaGreatDoor.V

namespace Go.Proofs.YtknfhphhcnbndaaGreatDoor.J
open Go.Proofs.YtknfhphhcnbndaaGreatDoor.B
open Go.RowKit

theorem add2_any (x y : Int) (g : Nat) (w : World) (h0 : w.cell? ⟨g, 0, none⟩ = some (.int .i64 x)) (h1 : w.cell? ⟨g, 1, none⟩ = some (.int .i64 y)) (hx : -9223372036854775808 ≤ x ∧ x ≤ 9223372036854775807) (hy : -9223372036854775808 ≤ y ∧ y ≤ 9223372036854775807) :
    Calls Tryz.prog 93 #[.slice (some ⟨g, 0, none⟩) 2 2] w fun e w' => e = .returned (.int .i64 (N.cutZ (x + y))) ∧ w = w' := by
  have h := N.add_some g 0 2 2 [x, y] w (by simp) (by simp) (fun i hi => by
    have : i = 0 ∨ i = 1 := by simp at hi; omega
    rcases this with rfl | rfl
    · exact h0
    · exact h1) (fun i => by
    match i with
    | 0 => exact hx
    | 1 => exact hy
    | n + 2 => rw [show [x, y].getD (n + 2) 0 = 0 from rfl]; omega)
  refine h.mono ?_
  rintro e w' ⟨rfl, rfl⟩
  refine ⟨?_, rfl⟩
  have e1 : N.addAll [x, y] = N.cutZ (x + y) := by
    show N.cutZ (N.cutZ (0 + x) + y) = _
    have : N.cutZ (0 + x) = x := by unfold N.cutZ; rw [if_neg (by omega), if_neg (by omega)]; omega
    rw [this]
  rw [show [x, y].take 2 = [x, y] from rfl, e1]
theorem where_any {M : List V.Nd} {p : Nat} (f : Int) (v0 w : World) (hf : V.Has v0 p M w) (hG : GoodJ M) (hE : V.FewE M) (hR : V.RI M) (hD : V.DU M) (ho : V.overI M f = f) :
    Calls Tryz.prog 94 #[.pointer (some ⟨p, 0, none⟩), .int .i64 f] w fun e w' => e = .returned (.string (whereJ M f)) ∧ Below w.heap.size w w' := by
  have HDr := Lib.hid (V.dir_any f v0 w hf hG.pos (by have := hG.few; omega) hE hR hD ho)
  clear hf hE
  go_enter Tryz.func94, Tryz.ntmps94
  go_upto_region 2 with (go_at_call 140; refine HDr.out.mono ?_; rintro e w2 ⟨s, er, rfl, hq, hb⟩; have HQ := Lib.hid hq; have HB := Lib.hid hb; clear hq hb)
  rcases HQ.out with ⟨rfl, ns, hd, hs, _⟩ | ⟨her, _, hno⟩
  · have HW := Lib.hid ((where_is hd).trans hs.symm)
    clear hs hd HQ
    go_wp2_with fail
    go_ret
    exact ⟨by rw [HW.out]; rfl, HB.out⟩
  · have d1 : (er != 0) = true := by simpa using her
    have HW := Lib.hid (where_no hno)
    clear her hno HQ
    go_wp2_with fail
    go_ret
    exact ⟨by rw [HW.out]; rfl, HB.out⟩
theorem blks_take {M : List V.Nd} {k : Nat} {n : V.Nd} (h : M[k]? = some n) (d : Int) : blksJ (M.take (k + 1)) d = blksJ (M.take k) d ++ if n.dev = d then [n.blocks] else [] := by
  obtain ⟨hk, he⟩ := List.getElem?_eq_some_iff.1 h
  rw [List.take_succ_eq_append_getElem hk, he, blks_snoc]
set_option maxHeartbeats 1000000 in
theorem count_fs (h : V.Fsh) (w : World) (H : V.Fs h w) (hn : 0 < h.X.length) :
    Calls Tryz.prog 146 #[.pointer (some ⟨h.p, 0, none⟩)] w fun e w' => e = .returned (.int .i64 (h.X.length : Int)) ∧ w = w' := by
  obtain ⟨g, cap, hv, _, _⟩ := H.slice hn
  have c0 := H.cell0
  rw [hv] at c0
  clear hv
  go_enter Tryz.func146, Tryz.ntmps146
  go_wp2
  go_ret
  exact ⟨rfl, rfl⟩
theorem count_has {w0 w : World} {p : Nat} {M : List V.Nd} (h : V.Has w0 p M w) (hn : 0 < M.length) :
    Calls Tryz.prog 146 #[.pointer (some ⟨p, 0, none⟩)] w fun e w' => e = .returned (.int .i64 (M.length : Int)) ∧ w = w' := by
  obtain ⟨h, rfl, rfl, H, hb, hf⟩ := h
  have hml : h.M.length = h.X.length := List.length_map ..
  rw [hml]
  exact count_fs h w H (by omega)
def URel (M : List V.Nd) (d : Int) (w : World) (v5 v11 : Value) (wr : World) : Prop := ∃ k : Nat, k ≤ M.length ∧ v11 = .int .i64 (k : Int) ∧ v5 = .int .i64 (N.addAll (blksJ (M.take k) d)) ∧ Hid (Below w.heap.size w wr)
set_option maxRecDepth 100000 in
set_option maxHeartbeats 8000000 in
theorem usedOn_any {M : List V.Nd} {p : Nat} (d : Int) (v0 w : World) (hf : V.Has v0 p M w) (hG : GoodJ M) :
    Calls Tryz.prog 91 #[.pointer (some ⟨p, 0, none⟩), .int .i64 d] w fun e w' => e = .returned (.int .i64 (usedJ M d)) ∧ Below w.heap.size w w' := by
  have HCn := Lib.hid (count_has hf hG.pos)
  have HNd := Lib.hid (fun (k : Nat) (n : V.Nd) (hn : M[k]? = some n) (X : World) (hb : Below w.heap.size w X) => V.has_node (hf.keep hb) hn)
  have HG := Lib.hid hG
  have hML := hG.few
  clear hf hG
  unfold V.knownV V.Nd.known at HNd
  go_enter Tryz.func91, Tryz.ntmps91
  go_wp2_with (go_at_call 146; refine HCn.out.mono ?_; rintro e wc ⟨rfl, hw⟩; subst hw)
  go_loopw [5, 11] (URel M d w) (fun _ v _ => M.length - (intOf v).toNat)
  case atStart => exact ⟨0, Nat.zero_le _, rfl, rfl, Lib.hid (Below.refl _ _)⟩
  case round =>
    obtain ⟨k, hk, rfl, rfl, HB⟩ := hrel
    clear HCn
    by_cases hlt : k < M.length
    · have e1 : decide ((k : Int) < (M.length : Int)) = true := decide_eq_true (by omega)
      obtain ⟨n, hn⟩ : ∃ n, M[k]? = some n := ⟨_, List.getElem?_eq_getElem hlt⟩
      have HNx := Lib.hid (HNd.out k n hn _ HB.out)
      have HBy := Lib.hid (show N.addAll (blksJ (M.take (k + 1)) d) = if n.dev = d then N.cutZ (N.addAll (blksJ (M.take k) d) + n.blocks) else N.addAll (blksJ (M.take k) d) from by
        rw [blks_take hn d]
        by_cases h : n.dev = d
        · rw [if_pos h, if_pos h, N.addAll_snoc]
        · rw [if_neg h, if_neg h, List.append_nil])
      have hbl := (HG.out.ok n (List.mem_of_getElem? hn)).blk
      have hs0 := N.addAll_bd (blksJ (M.take k) d)
      have HOn := Lib.hid (V.known_one n)
      unfold V.Nd.known at HOn
      generalize N.addAll (blksJ (M.take k) d) = x at hs0 HBy ⊢
      clear hn
      go_upto_region 6 with (first
        | (go_at_call 30; refine HNx.out.mono ?_; rintro e w2 ⟨rfl, hb⟩; have HB2 := Lib.hid (below_two HB.out hb); clear hb)
        | (refine wpList_store_row rfl 66 (.tmp 7) (.tmp 18) rfl w2.heap.size #[.int .i64 n.dev, .int .i64 n.ino, .int .i64 n.kind, .int .i64 n.mode, .int .i64 n.uid, .int .i64 n.gid, .int .i64 n.size, .int .i64 n.blocks, .int .i64 n.links, .int .i64 n.t0, .int .i64 n.t1, .int .i64 n.t2, .string n.target] rfl rfl _ _ (heap_alloc_new _ _) (by rw [sizeNd]; rfl) rfl HOn.out ?_; rw [World.setRow_alloc_new]))
      have HB3 := Lib.hid (show Below w.heap.size w (w2.alloc (.cells #[.int .i64 n.dev, .int .i64 n.ino, .int .i64 n.kind, .int .i64 n.mode, .int .i64 n.uid, .int .i64 n.gid, .int .i64 n.size, .int .i64 n.blocks, .int .i64 n.links, .int .i64 n.t0, .int .i64 n.t1, .int .i64 n.t2, .string n.target] 66)) from below_two HB2.out ((Below.refl _ _).alloc (Nat.le_refl _) _))
      have HX3 := Lib.hid (heap_alloc_new w2 (.cells #[.int .i64 n.dev, .int .i64 n.ino, .int .i64 n.kind, .int .i64 n.mode, .int .i64 n.uid, .int .i64 n.gid, .int .i64 n.size, .int .i64 n.blocks, .int .i64 n.links, .int .i64 n.t0, .int .i64 n.t1, .int .i64 n.t2, .string n.target] 66))
      generalize w2.alloc (.cells #[.int .i64 n.dev, .int .i64 n.ino, .int .i64 n.kind, .int .i64 n.mode, .int .i64 n.uid, .int .i64 n.gid, .int .i64 n.size, .int .i64 n.blocks, .int .i64 n.links, .int .i64 n.t0, .int .i64 n.t1, .int .i64 n.t2, .string n.target] 66) = w3 at HB3 HX3 ⊢
      generalize w2.heap.size = b2 at HX3 ⊢
      have c0 : w3.cell? ⟨b2, 0, none⟩ = some (.int .i64 n.dev) := by rw [cell_of_row _ _ _ _ _ _ HX3.out]; rfl
      have c7 : w3.cell? ⟨b2, 7, none⟩ = some (.int .i64 n.blocks) := by rw [cell_of_row _ _ _ _ _ _ HX3.out]; rfl
      by_cases hd : n.dev = d
      · have e2 : (n.dev == d) = true := beq_iff_eq.2 hd
        have HNw := Lib.hid (show N.cutZ (x + n.blocks) = N.addAll (blksJ (M.take (k + 1)) d) from by rw [HBy.out, if_pos hd])
        clear hd HBy HOn
        go_wp2_with (go_at_call 93; refine (add2_any x n.blocks w3.heap.size _ (by rw [cell_of_row _ _ _ _ _ _ (heap_alloc_new _ _)]; rfl) (by rw [cell_of_row _ _ _ _ _ _ (heap_alloc_new _ _)]; rfl) hs0 ⟨by omega, hbl.2⟩).mono ?_; rintro e w4 ⟨rfl, hw4⟩; rw [HNw.out])
        have HB4 := Lib.hid (show Below w.heap.size w w4 from by rw [← hw4]; exact below_two HB3.out ((Below.refl _ _).alloc (Nat.le_refl _) _))
        clear hw4 c0 c7
        go_roundw
        case rel => exact ⟨k + 1, by omega, by go_num, rfl, HB4⟩
        case measure => simp [intOf]; omega
      · have e2 : (n.dev == d) = false := beq_eq_false_iff_ne.2 hd
        have HNw := Lib.hid (show x = N.addAll (blksJ (M.take (k + 1)) d) from by rw [HBy.out, if_neg hd])
        clear hd HBy HOn
        go_wp2_with fail
        go_roundw
        case rel => exact ⟨k + 1, by omega, by go_num, congrArg (Value.int .i64) HNw.out, HB3⟩
        case measure => simp [intOf]; omega
    · have hkn : k = M.length := by omega
      have e1 : decide ((k : Int) < (M.length : Int)) = false := decide_eq_false (by omega)
      rw [show M.take k = M by rw [hkn]; exact List.take_length]
      clear hkn
      have hb := N.addAll_bd (blksJ M d)
      have HCe := Lib.hid (fun W => N.ceil_any (N.addAll (blksJ M d)) 2 W hb.1 hb.2 (by omega) (by omega))
      have HU := Lib.hid (show N.ceilZ (N.addAll (blksJ M d)) 2 = usedJ M d from rfl)
      go_wp2_with (go_at_call 147; refine (HCe.out _).mono ?_; rintro e w4 ⟨rfl, hw4⟩; subst hw4; rw [HU.out])
      go_ret
      exact ⟨rfl, HB.out⟩
end Go.Proofs.YtknfhphhcnbndaaGreatDoor.J
