/- Leaf functions of the codec: what each call gives. -/
import Derived.Test.YtblhmeidbjigaaaRows
import Derived.WalkKit
import Derived.WalkSpells
import Derived.WalkLawsBesides
import Derived.Laws.BytesArg
import Derived.Deep.QuietTactic
import Derived.BigQuiet
import Derived.Deep.RegionHeld3

set_option linter.unusedSimpArgs false
set_option linter.unusedVariables false
namespace Go.Proofs.Ytblhmeidbjigaaa
open Go.RowKit

/-- isBelow -/
def below (a b : Int) : Bool := decide (0 ≤ a ∧ a < b)

/-- byteAt -/
def byteOr (d : Int) (s : ByteArray) (i : Int) : Int := if 0 ≤ i ∧ i < s.size then (s[i.toNat]!).toNat else d

def byt (n : Int) : UInt8 := UInt8.ofNat (n % 256).toNat

theorem wrap64_u8 (b : UInt8) : wrap64 (b.toNat : Int) = b.toNat := IntWalk.wrap64_in _ (by have := b.toNat_lt; omega)

set_option maxHeartbeats 400000 in
theorem isBelow_any (a b : Int) (w : World) :
    Calls Try.prog 87 #[.int .i64 a, .int .i64 b] w fun e w' => e = .returned (.bool (below a b)) ∧ w = w' := by
  by_cases h : 0 ≤ a
  · go_enter Try.func87, Try.ntmps87
    go_wp2
    go_ret
    exact ⟨by simp [below, h], rfl⟩
  · have hb : below a b = false := by simp only [below, h, false_and, decide_false]
    go_enter Try.func87, Try.ntmps87
    go_wp2
    go_ret
    exact ⟨rfl, rfl⟩

set_option maxHeartbeats 400000 in
theorem byteAt_any (s : ByteArray) (i : Int) (w : World) (hs : s.size ≤ maxLen) :
    Calls Try.prog 69 #[.string s, .int .i64 i] w fun e w' => e = .returned (.int .i64 (byteOr (-1) s i)) ∧ w = w' := by
  unfold maxLen at hs
  by_cases h : 0 ≤ i ∧ i < s.size
  · have hb : below i s.size = true := by simp [below, h]
    obtain ⟨h1, h2⟩ := h
    obtain ⟨n, rfl⟩ := Int.eq_ofNat_of_zero_le h1
    go_enter Try.func69, Try.ntmps69
    go_wp2_with (go_at_call 87; refine (isBelow_any _ _ _).mono ?_; rintro e w' ⟨rfl, rfl⟩)
    go_ret
    refine ⟨?_, rfl⟩
    simp [byteOr, h1, h2, getElem!_pos, show n < s.size by omega, wrap64_u8]
  · have hb : below i s.size = false := by simp only [below, h, decide_false]
    have hc : byteOr (-1) s i = -1 := by simp only [byteOr, h, if_false]
    go_enter Try.func69, Try.ntmps69
    go_wp2_with (go_at_call 87; refine (isBelow_any _ _ _).mono ?_; rintro e w' ⟨rfl, rfl⟩)
    go_ret
    exact ⟨by simp [hc], rfl⟩

end Go.Proofs.Ytblhmeidbjigaaa

/- Leaf functions of the document's answer: what each call gives. -/
set_option linter.unusedSimpArgs false
set_option linter.unusedVariables false
namespace Go.Proofs.Ytblhmeidbjigaaa
open Go.RowKit

theorem Try.infoU8 : (Try.prog.info? 5).map (fun i => (i.zero, i.size, i.bytes)) = some (some (.int .u8 0), 1, 1) := by kernel_rfl

set_option maxHeartbeats 400000 in
theorem at_any (s : ByteArray) (i : Int) (w : World) (hs : s.size ≤ maxLen) :
    Calls Try.prog 63 #[.string s, .int .i64 i] w fun e w' => e = .returned (.int .i64 (byteOr 0 s i)) ∧ w = w' := by
  unfold maxLen at hs
  by_cases h1 : 0 ≤ i
  · obtain ⟨n, rfl⟩ := Int.eq_ofNat_of_zero_le h1
    by_cases h2 : (n : Int) < s.size
    · go_enter Try.func63, Try.ntmps63
      go_wp2
      go_ret
      refine ⟨?_, rfl⟩
      simp [byteOr, h1, h2, getElem!_pos, show n < s.size by omega, wrap64_u8]
    · have hc : byteOr 0 s n = 0 := by simp only [byteOr, h2, and_false, if_false]
      go_enter Try.func63, Try.ntmps63
      go_wp2
      go_ret
      exact ⟨rfl, rfl⟩
  · have hc : byteOr 0 s i = 0 := by simp only [byteOr, h1, false_and, if_false]
    go_enter Try.func63, Try.ntmps63
    go_wp2
    go_ret
    exact ⟨rfl, rfl⟩

/-- The k-th number of a list (kept from the walk's own rules). -/
def el (xs : List Int) (k : Nat) : Int := xs.getD k 0
/-- The first k numbers as bytes in cells. -/
def rowB (xs : List Int) (k : Nat) : List Value := (xs.take k).map fun n => Value.int .u8 (n % 256)

theorem rowB_succ {xs : List Int} {k : Nat} (h : k < xs.length) : rowB xs (k + 1) = rowB xs k ++ [.int .u8 (el xs k % 256)] := by
  unfold rowB el
  rw [List.take_succ_eq_append_getElem h, List.map_append, show xs.getD k 0 = xs[k] from by simp [h]]
  rfl

theorem str_nb (xs : List Int) : strOfNums (xs.map (· % 256)) = ⟨(xs.map byt).toArray⟩ := by
  simp [strOfNums, byt, Function.comp_def]

theorem conv_own {w wr : World} {B : Nat} {v : Value} {xs : List Int} (h : wr.ownsRow B 5 1 v xs.length (rowB xs xs.length)) :
    (convert 127 9 v).run Try.prog wr = .ok (.string ⟨(xs.map byt).toArray⟩) wr := by
  rcases h.2 with ⟨rfl, h0⟩ | ⟨g, cap, cur, rfl, _, hg, _, _, hs, ht⟩
  · have : xs = [] := List.eq_nil_of_length_eq_zero h0
    subst this
    exact run_convert_bytes_nil _ 127 5 Try.underlying127 Try.underlying5 _ _ _ Try.underlying9
  · rw [← str_nb]
    refine run_convert_bytes_arg _ 127 5 Try.underlying127 Try.underlying5 _ 0 _ _ _ (by simp) ?_ _ Try.underlying9
    intro i hi
    have hc := h.cells (g := g) rfl i (.int .u8 ((xs.map (· % 256)).getD i 0)) (by simp [rowB, hi])
    rw [Addr.add_lit] at hc
    simpa using hc

set_option maxHeartbeats 800000 in
theorem bytes_any (b off cap : Nat) (xs : List Int) (w : World) (hb : b < w.heap.size) (hl : xs.length ≤ 1000)
    (hc : ∀ i, i < xs.length → w.cell? ⟨b, off + i, none⟩ = some (.int .i64 (el xs i))) :
    Calls Try.prog 62 #[.slice (some ⟨b, off, none⟩) xs.length cap] w fun e w' => e = .returned (.string ⟨(xs.map byt).toArray⟩) ∧ Below w.heap.size w w' := by
  obtain ⟨i0, hi, hz0, hz1, hz2⟩ := info_parts Try.infoU8
  obtain ⟨r, hr⟩ : ∃ r : ByteArray, r = ⟨(xs.map byt).toArray⟩ := ⟨_, rfl⟩
  rw [← hr]
  have HR : Hid (r = ⟨(xs.map byt).toArray⟩) := hr
  clear hr
  go_enter Try.func62, Try.ntmps62
  go_wp2
  go_loopw [3, 4] (fun v i wr => ∃ k : Nat, k ≤ xs.length ∧ i = .int .i64 k ∧ wr.ownsRow w.heap.size 5 1 v k (rowB xs k) ∧ Below w.heap.size w wr)
    (fun _ i _ => xs.length - (intOf i).toNat)
  case atStart => exact ⟨0, Nat.zero_le _, rfl, World.ownsRow_nil _ _ _ _, Below.refl _ _⟩
  case round =>
    obtain ⟨k, hk, rfl, hown, hbel⟩ := hrel
    by_cases hlt : k < xs.length
    · have hcx : wr.cell? ⟨b, off + k, none⟩ = some (.int .i64 (el xs k)) := (hbel.cell hb).trans (hc k hlt)
      have hz := hbel.size
      go_wp2_with (at_builtin; refine wpList_append_own _ rfl _ _ 127 rfl w.heap.size 5 i0 (.int .u8 0) 1 1 Try.underlying127 hi hz0 hz1 hz2 rfl (by decide) _ _ _ rfl (hown.alloc _) ⟨wr.heap.size, 0, none⟩ 1 1 [.int .u8 (el xs k % 256)] rfl rfl (cell_one_new _ _ _) ?c2 ?c3 ?c4 ?c5 ?_)
      case c2 => intro u hu; simp at hu; subst hu; rfl
      case c3 => unfold maxLen; omega
      case c4 => omega
      case c5 => simp; omega
      intro v' w1 hown' hgrow _
      rw [← rowB_succ hlt] at hown'
      have hb1 := (hbel.alloc hz (Obj.cells #[.int .u8 (el xs k % 256)] 5)).grown hgrow (by simp; omega) (fun g hg => (hown.lt g hg).1)
      clear hgrow hown hcx
      go_wp2
      go_roundw
      case rel => exact ⟨k + 1, by omega, by go_num, hown', hb1⟩
      case measure => simp [intOf]; omega
    · obtain rfl : k = xs.length := by omega
      have hcv := conv_own (w := w) hown
      rw [← HR.out] at hcv
      go_wp2
      go_ret
      exact ⟨rfl, hbel⟩

end Go.Proofs.Ytblhmeidbjigaaa

/- Hints and programs as plain data; how they lie in memory. -/
set_option linter.unusedSimpArgs false
set_option linter.unusedVariables false
namespace Go.Proofs.Ytblhmeidbjigaaa
open Go.RowKit

/-! ### Plain data -/

structure PairD where
  reg : Int
  place : Int

structure PingD where
  src : Int
  pairs : List PairD

def hz : PingD := ⟨0, []⟩

def hsrc (h : List PingD) (k : Nat) : Int := (h.getD k hz).src
/-! ### Well made hints -/

theorem drop_getD {α : Type} (l : List α) (d : α) (k : Nat) (h : k < l.length) : l.drop k = l.getD k d :: l.drop (k + 1) := by
  rw [List.drop_eq_getElem_cons h]; simp [h]

/-! ### How they lie in memory -/

theorem cell_keep {w w' : World} (hb : Below w.heap.size w w') {a : Addr} {v : Value} (h : w.cell? a = some v) : w'.cell? a = some v :=
  (hb.cell (World.block_lt_of_cell? w a h)).trans h

/-- A frame that opened with one new block. -/
theorem Below.under {w w' : World} {o : Obj} (h : Below (w.heap.size + 1) (w.alloc o) w') : Below w.heap.size w w' :=
  ((Below.refl w.heap.size w).alloc (Nat.le_refl _) o).trans (h.mono (by omega))

/-! ### A region whose order is open, its calls making memory: any world that keeps what lay below B -/

structure Past (B : Nat) (w : World) where
  wd : World
  ok : Below B w wd

theorem wp_region_past {P : Program} {id : Nat} {Q : Exit → Act → World → Prop} {a : Act} {w : World} {l : List Oper} (B : Nat) (hm : P.follows .mixedOrders = true) (hB : Region.lexB .any l.toArray = true)
    (h : wpQuiet P l.toArray (fun w' => ∃ x : Past B w, w' = x.wd) (fun a' => ∀ w', (∃ x : Past B w, w' = x.wd) → Q .normal a' w') l a) : (Code.region id l.toArray true).wp P Q a w :=
  wp_region_quiet (C := fun w' => ∃ x : Past B w, w' = x.wd) hm hB ⟨⟨w.drew, (Below.refl B w).drew⟩, rfl⟩ (by simpa using h)

theorem Calls.past_of {P : Program} {f : FuncId} {args : Array Value} {w : World} {B : Nat} {x : Past B w} {v : Value} (hB : B ≤ w.heap.size)
    (h : Calls P f args x.wd fun e w' => e = .returned v ∧ Below x.wd.heap.size x.wd w') : Calls P f args x.wd fun e w'' => e = .returned v ∧ ∃ y : Past B w, w'' = y.wd :=
  h.mono fun _ w' ⟨he, hb⟩ => ⟨he, ⟨w', x.ok.trans (hb.mono (Nat.le_trans hB x.ok.size))⟩, rfl⟩

theorem Past.any (B : Nat) (w : World) : Nonempty (Past B w) := ⟨⟨w, Below.refl B w⟩⟩

theorem Past.cell {w : World} (x : Past w.heap.size w) {a : Addr} {v : Value} (h : w.cell? a = some v) : x.wd.cell? a = some v := cell_keep x.ok h

theorem owns_slice {w : World} {base : Nat} {e : TypeId} {size : Nat} {v : Value} {n : Nat} {xs : List Value} (h : w.ownsRow base e size v n xs) : ∃ ao cap, v = .slice ao n cap := by
  rcases h.2 with ⟨rfl, rfl⟩ | ⟨g, cap, cur, rfl, _⟩
  · exact ⟨_, _, rfl⟩
  · exact ⟨_, _, rfl⟩

theorem owns_base {w : World} {base base' : Nat} {e : TypeId} {size : Nat} {v : Value} {n : Nat} {xs : List Value} (h : w.ownsRow base e size v n xs) (hb : base' ≤ base) : w.ownsRow base' e size v n xs := by
  refine ⟨h.1, ?_⟩
  rcases h.2 with h2 | ⟨g, cap, cur, hv, hg, r⟩
  · exact .inl h2
  · exact .inr ⟨g, cap, cur, hv, Nat.le_trans hb hg, r⟩

theorem cell_set {w : World} {a : Addr} {u v : Value} (h : w.cell? a = some u) : (w.setCell a v).cell? a = some v := World.cell?_setCell_same _ _ _ h

theorem cell_unset {w : World} {a b : Addr} {u v : Value} (hn : a ≠ b) (h : w.cell? b = some u) : (w.setCell a v).cell? b = some u := (World.cell?_setCell_other _ _ _ _ hn).trans h

/-! ### Texts -/

/-- A text out of bytes. -/
def str (l : List UInt8) : ByteArray := ⟨l.toArray⟩

theorem str_append (a b : List UInt8) : str a ++ str b = str (a ++ b) := by
  apply ByteArray.ext
  simp [str]

theorem take_getD {α : Type} (l : List α) (d : α) (k : Nat) (h : k < l.length) : l.take (k + 1) = l.take k ++ [l.getD k d] := by
  rw [List.take_succ_eq_append_getElem h]; simp [h]

theorem getD_mem' {α : Type} {l : List α} {d : α} {k : Nat} (h : k < l.length) : l.getD k d ∈ l := by
  simp [h]

end Go.Proofs.Ytblhmeidbjigaaa

/- Words: what an operation from Add to Div gives, in the program's package word and in the reference. -/
set_option linter.unusedSimpArgs false
set_option linter.unusedVariables false
namespace Go.Proofs.Ytblhmeidbjigaaa
open Go.RowKit

/-- The word of an operation from Add to Div. -/
def calcW (k x y : Int) : Int :=
  if k = 3 then wrap64 (x + y)
  else if k = 4 then wrap64 (x - y)
  else if k = 5 then wrap64 (x * y)
  else if k = 6 then bits .and .i64 x y
  else if k = 7 then bits .or .i64 x y
  else if k = 8 then bits .xor .i64 x y
  else if k = 9 then (if x < y then 1 else 0)
  else if k = 10 then (if x = y then 1 else 0)
  else wrap64 (x.tdiv y)

theorem ofTruth_any (b : Bool) (w : World) : Calls Try.prog 109 #[.bool b] w fun e w' => e = .returned (.int .i64 (if b then 1 else 0)) ∧ w = w' := by
  go_enter Try.func109, Try.ntmps109
  cases b
  · go_wp2
    go_ret
    exact ⟨by simp, rfl⟩
  · go_wp2
    go_ret
    exact ⟨by simp, rfl⟩

theorem one_any (b : Bool) (w : World) : Calls Try.prog 102 #[.bool b] w fun e w' => e = .returned (.int .i64 (if b then 1 else 0)) ∧ w = w' := by
  go_enter Try.func102, Try.ntmps102
  cases b
  · go_wp2
    go_ret
    exact ⟨by simp, rfl⟩
  · go_wp2
    go_ret
    exact ⟨by simp, rfl⟩

theorem ofConst_any (b c : Int) (w : World) (hb : 0 ≤ b ∧ b < 256) (hc : 0 ≤ c ∧ c < 256) : Calls Try.prog 103 #[.int .i64 b, .int .i64 c] w fun e w' => e = .returned (.int .i64 (256 * b + c - 32768)) ∧ w = w' := by
  go_enter Try.func103, Try.ntmps103
  go_wp2
  go_ret
  exact ⟨by simp, rfl⟩

theorem quotient_any (x y : Int) (hy : y ≠ 0) (w : World) : Calls Try.prog 110 #[.int .i64 x, .int .i64 y] w fun e w' => e = .returned (.tuple #[.int .i64 (wrap64 (x.tdiv y)), .bool true]) ∧ w = w' := by
  go_enter Try.func110, Try.ntmps110
  go_wp2
  go_ret2
  exact ⟨by simp, rfl⟩

theorem quotient_zero (x : Int) (w : World) : Calls Try.prog 110 #[.int .i64 x, .int .i64 0] w fun e w' => e = .returned (.tuple #[.int .i64 0, .bool false]) ∧ w = w' := by
  go_enter Try.func110, Try.ntmps110
  go_wp2
  go_ret2
  exact ⟨by simp, rfl⟩

set_option maxHeartbeats 2000000 in
theorem wordOf_any (k x y : Int) (w : World) (hk : 3 ≤ k ∧ k ≤ 11) (hy : k = 11 → y ≠ 0) : Calls Try.prog 108 #[.int .i64 k, .int .i64 x, .int .i64 y] w fun e w' => e = .returned (.tuple #[.int .i64 (calcW k x y), .bool true]) ∧ w = w' := by
  obtain rfl | rfl | rfl | rfl | rfl | rfl | rfl | rfl | rfl : k = 9 ∨ k = 10 ∨ k = 3 ∨ k = 4 ∨ k = 5 ∨ k = 6 ∨ k = 7 ∨ k = 8 ∨ k = 11 := by omega
  · by_cases h : x < y
    all_goals
      go_enter Try.func108, Try.ntmps108
      go_wp2_with (first | (go_at_call 109; refine (ofTruth_any _ _).mono ?_; rintro e w' ⟨rfl, rfl⟩))
      go_ret2
      exact ⟨by simp [calcW, h], rfl⟩
  · by_cases h : x = y
    all_goals
      go_enter Try.func108, Try.ntmps108
      go_wp2_with (first | (go_at_call 109; refine (ofTruth_any _ _).mono ?_; rintro e w' ⟨rfl, rfl⟩))
      go_ret2
      exact ⟨by simp [calcW, h], rfl⟩
  all_goals
    go_enter Try.func108, Try.ntmps108
    go_wp2_with (first | (go_at_call 110; refine (quotient_any _ _ (hy rfl) _).mono ?_; rintro e w' ⟨rfl, rfl⟩))
    go_ret2
    exact ⟨by simp [calcW], rfl⟩

set_option maxHeartbeats 2000000 in
theorem wordOf_zero (x : Int) (w : World) : Calls Try.prog 108 #[.int .i64 11, .int .i64 x, .int .i64 0] w fun e w' => e = .returned (.tuple #[.int .i64 0, .bool false]) ∧ w = w' := by
  go_enter Try.func108, Try.ntmps108
  go_wp2_with (go_at_call 110; refine (quotient_zero _ _).mono ?_; rintro e w' ⟨rfl, rfl⟩)
  go_ret2
  exact ⟨by simp, rfl⟩

set_option maxHeartbeats 2000000 in
theorem calcW_any (k x y : Int) (w : World) (hk : 3 ≤ k ∧ k ≤ 11) (hy : k = 11 → y ≠ 0) : Calls Try.prog 99 #[.int .i64 k, .int .i64 x, .int .i64 y] w fun e w' => e = .returned (.int .i64 (calcW k x y)) ∧ w = w' := by
  obtain rfl | rfl | rfl | rfl | rfl | rfl | rfl | rfl | rfl : k = 9 ∨ k = 10 ∨ k = 11 ∨ k = 3 ∨ k = 4 ∨ k = 5 ∨ k = 6 ∨ k = 7 ∨ k = 8 := by omega
  · by_cases h : x < y
    all_goals
      go_enter Try.func99, Try.ntmps99
      go_wp2_with (first | (go_at_call 102; refine (one_any _ _).mono ?_; rintro e w' ⟨rfl, rfl⟩))
      go_ret
      exact ⟨by simp [calcW, h], rfl⟩
  · by_cases h : x = y
    all_goals
      go_enter Try.func99, Try.ntmps99
      go_wp2_with (first | (go_at_call 102; refine (one_any _ _).mono ?_; rintro e w' ⟨rfl, rfl⟩))
      go_ret
      exact ⟨by simp [calcW, h], rfl⟩
  · have hy := hy rfl
    go_enter Try.func99, Try.ntmps99
    go_wp2
    go_ret
    exact ⟨by simp [calcW], rfl⟩
  all_goals
    go_enter Try.func99, Try.ntmps99
    go_wp2
    go_ret
    exact ⟨by simp [calcW], rfl⟩

end Go.Proofs.Ytblhmeidbjigaaa

/- Well made hints, in the document's answer. -/
set_option linter.unusedSimpArgs false
set_option linter.unusedVariables false
namespace Go.Proofs.Ytblhmeidbjigaaa
open Go.RowKit

theorem below_true {a b : Int} (h1 : 0 ≤ a) (h2 : a < b) : below a b = true := by simp [below, h1, h2]
theorem below_lo {a b : Int} (h : a < 0) : below a b = false := by simp only [below, decide_eq_false_iff_not]; omega
theorem below_hi {a b : Int} (h : b ≤ a) : below a b = false := by simp only [below, decide_eq_false_iff_not]; omega

end Go.Proofs.Ytblhmeidbjigaaa

/- The text of a hint, in the document's answer. -/
set_option linter.unusedSimpArgs false
set_option linter.unusedVariables false
namespace Go.Proofs.Ytblhmeidbjigaaa
open Go.RowKit

theorem bytes1 (x : Int) (w : World) : Calls Try.prog 62 #[.slice (some ⟨w.heap.size, 0, none⟩) 1 1] (w.alloc (.cells #[.int .i64 x] 3)) fun e w' => e = .returned (.string ⟨#[byt x]⟩) ∧ Below w.heap.size w w' := by
  have h := bytes_any w.heap.size 0 1 [x] (w.alloc (.cells #[.int .i64 x] 3)) (by simp) (by simp) (by
    intro i hi
    obtain rfl : i = 0 := by simp at hi; omega
    simp [el])
  refine h.mono ?_
  rintro e w' ⟨rfl, hb⟩
  exact ⟨rfl, ((Below.refl _ _).alloc (Nat.le_refl _) _).trans (hb.mono (by simp))⟩

theorem bappend_assoc (a b c : ByteArray) : a ++ b ++ c = a ++ (b ++ c) := by
  apply ByteArray.ext; simp [Array.append_assoc]

end Go.Proofs.Ytblhmeidbjigaaa

/- Reading a hint in the codec. -/
set_option linter.unusedSimpArgs false
set_option linter.unusedVariables false
namespace Go.Proofs.Ytblhmeidbjigaaa
open Go.RowKit

theorem byteOr_bd (d : Int) (s : ByteArray) (i : Int) (hd : -1 ≤ d ∧ d ≤ 255) : -1 ≤ byteOr d s i ∧ byteOr d s i ≤ 255 := by
  unfold byteOr
  split
  · have := (s[i.toNat]!).toNat_lt; omega
  · exact hd

end Go.Proofs.Ytblhmeidbjigaaa

/- Hints that lie in memory of their own, each list for itself. -/
set_option linter.unusedSimpArgs false
set_option linter.unusedVariables false
namespace Go.Proofs.Ytblhmeidbjigaaa
open Go.RowKit

section
variable {w w' : World} {base base' : Nat} {e : TypeId} {size : Nat} {v : Value} {n : Nat} {xs : List Value}

/-- What lies in a block that has not turned. -/
theorem owns_same (h : w.ownsRow base e size v n xs) (hb : ∀ g, v.ownBlock = some g → w'.heap[g]? = w.heap[g]?) : w'.ownsRow base e size v n xs := by
  refine ⟨h.1, ?_⟩
  rcases h.2 with h2 | ⟨g, cap, cur, rfl, hg, hh, r⟩
  · exact .inl h2
  · exact .inr ⟨g, cap, cur, rfl, hg, (hb g rfl).trans hh, r⟩

theorem owns_below {B : Nat} (h : w.ownsRow base e size v n xs) (hb : Below B w w') (hB : w.heap.size ≤ B) : w'.ownsRow base e size v n xs :=
  owns_same h fun g hg => hb.block g (Nat.lt_of_lt_of_le (h.lt g hg).2 hB)

/-- Rows of different types lie in different blocks. -/
theorem owns_apart {e' : TypeId} {size' : Nat} {v' : Value} {n' : Nat} {xs' : List Value} (h : w.ownsRow base e size v n xs) (h' : w.ownsRow base' e' size' v' n' xs') (he : e ≠ e') : ∀ g, v.ownBlock = some g → v'.ownBlock ≠ some g := by
  intro g hg hg'
  rcases h.2 with ⟨rfl, _⟩ | ⟨k, cap, cur, rfl, _, hh, _⟩
  · simp [Value.ownBlock] at hg
  rcases h'.2 with ⟨rfl, _⟩ | ⟨k', cap', cur', rfl, _, hh', _⟩
  · simp [Value.ownBlock] at hg'
  simp [Value.ownBlock] at hg hg'
  subst hg; subst hg'
  rw [hh] at hh'
  simp at hh'
  exact he hh'.2

theorem owns_cell (h : w.ownsRow base e size v n xs) {ao : Option Addr} {cap : Nat} (hv : v = .slice ao n cap) {i : Nat} (hi : i < xs.length) :
    ∃ b, ao = some ⟨b, 0, none⟩ ∧ base ≤ b ∧ v.ownBlock = some b ∧ w.cell? ⟨b, i, none⟩ = some xs[i] := by
  rcases h.2 with ⟨h1, h0⟩ | ⟨g, cap', cur, h1, hg, hh, r⟩
  · have := h.1
    simp [h0] at this
    simp [this] at hi
  · subst hv
    simp at h1
    obtain ⟨rfl, rfl⟩ := h1
    refine ⟨g, rfl, hg, rfl, ?_⟩
    have := h.cells (g := g) rfl i xs[i] (by simp)
    rwa [Addr.add_lit, Nat.zero_add] at this

theorem owns_le (h : w.ownsRow base e size v n xs) : n ≤ 9223372036854775807 := by
  rcases h.2 with ⟨h1, h0⟩ | ⟨g, cap', cur, h1, hg, hh, h2, h3, r⟩
  · omega
  · unfold maxLen at h3; omega
end

end Go.Proofs.Ytblhmeidbjigaaa

/- Reading a hint, in the document's answer. -/
set_option linter.unusedSimpArgs false
set_option linter.unusedVariables false
namespace Go.Proofs.Ytblhmeidbjigaaa
open Go.RowKit

theorem byteOr0_bd (s : ByteArray) (i : Int) : 0 ≤ byteOr 0 s i ∧ byteOr 0 s i ≤ 255 := by
  unfold byteOr
  split
  · have := (s[i.toNat]!).toNat_lt; omega
  · omega

theorem toList_ne {a b : ByteArray} (h : a ≠ b) : (a.toList == b.toList) = false := by
  rw [beq_eq_false_iff_ne]
  intro e
  rw [ByteArray.toList_eq, ByteArray.toList_eq] at e
  exact h (ByteArray.ext (Array.toList_inj.1 e))

end Go.Proofs.Ytblhmeidbjigaaa

/- Texts of hints: what is read is what was written. -/
set_option linter.unusedSimpArgs false
set_option linter.unusedVariables false
namespace Go.Proofs.Ytblhmeidbjigaaa
open Go.RowKit

theorem byt_toNat {n : Int} (h0 : 0 ≤ n) (h1 : n < 256) : ((byt n).toNat : Int) = n := by
  unfold byt
  rw [UInt8.toNat_ofNat']
  omega

theorem byt_of (b : UInt8) : byt (b.toNat : Int) = b := by
  unfold byt
  have := b.toNat_lt
  apply UInt8.toNat_inj.1
  rw [UInt8.toNat_ofNat']
  omega

theorem str_size (l : List UInt8) : (str l).size = l.length := by simp [str, ByteArray.size]

theorem byteOr_str {d : Int} {l : List UInt8} {i : Nat} {b : UInt8} (h : l[i]? = some b) : byteOr d (str l) i = b.toNat := by
  have hi : i < l.length := (List.getElem?_eq_some_iff.1 h).1
  have e : l[i] = b := (List.getElem?_eq_some_iff.1 h).2
  unfold byteOr
  rw [if_pos (by rw [str_size]; omega)]
  have : (str l)[(i : Int).toNat]! = b := by
    rw [Int.toNat_natCast, getElem!_pos _ _ (by rw [str_size]; exact hi), ← e]
    rfl
  rw [this]

theorem str_of (s : ByteArray) : s = str s.data.toList := by simp [str]

theorem get_mid {l a b c : List UInt8} {o i : Nat} {x : UInt8} (hl : l = a ++ b ++ c) (ho : a.length = o) (h : b[i]? = some x) : l[o + i]? = some x := by
  have hi : i < b.length := (List.getElem?_eq_some_iff.1 h).1
  subst hl; subst ho
  rw [List.append_assoc, List.getElem?_append_right (by omega), Nat.add_sub_cancel_left, List.getElem?_append_left hi, h]

/-! ### Back: what was read, written again -/

theorem byteOr_in {d : Int} {s : ByteArray} {i : Nat} (hi : i < s.size) : byteOr d s i = (s.data.toList[i]'(by simpa using hi)).toNat := by
  have h : s.data.toList[i]? = some (s.data.toList[i]'(by simpa using hi)) := List.getElem?_eq_getElem _
  have := byteOr_str (d := d) h
  rwa [← str_of] at this

/-- A stretch of a text. -/
def seg (s : ByteArray) (i n : Nat) : List UInt8 := (s.data.toList.drop i).take n

theorem seg_two {s : ByteArray} {i : Nat} (h : i + 1 < s.size) : seg s i 2 = [byt (byteOr (-1) s i), byt (byteOr (-1) s ((i : Int) + 1))] := by
  have hl : s.data.toList.length = s.size := Array.length_toList
  rw [show (i : Int) + 1 = ((i + 1 : Nat) : Int) by omega, byteOr_in (show i < s.size by omega), byteOr_in h, byt_of, byt_of]
  unfold seg
  rw [List.drop_eq_getElem_cons (by omega), List.drop_eq_getElem_cons (by omega)]
  rfl

theorem seg_add (s : ByteArray) (i n m : Nat) : seg s i (n + m) = seg s i n ++ seg s (i + n) m := by
  unfold seg
  rw [List.take_add, List.drop_drop]

/-! ### The two contracts, in the document's words -/

end Go.Proofs.Ytblhmeidbjigaaa

/- Appending to a list of one's own: what was there stays. -/
set_option linter.unusedSimpArgs false
set_option linter.unusedVariables false
namespace Go.Proofs.Ytblhmeidbjigaaa
open Go.RowKit

section
variable {P : Program} (w : World)

theorem append_stay (base : Nat) (t ty e : TypeId) (i : TypeInfo) (z : Value) (size bytes : Nat) (ht : P.underlying t = some (.slice e)) (hi : P.info? e = some i) (hz : i.zero = some z)
    (hsize : i.size = size) (hby : i.bytes = bytes) (hzs : z.cells.size = size) (hsz : 0 < size)
    (v : Value) (n : Nat) (xs : List Value) (hown : w.ownsRow base e size v n xs)
    (a : Addr) (m c : Nat) (news : List Value) (hl : news.length = m * size) (hnews : ∀ j u, news[j]? = some u → w.cell? (a.add j) = some u) (h1 : ∀ u ∈ news, u.oneCell' = true)
    (h63 : n + m ≤ maxLen) (hbytes : (n + m) * bytes ≤ 140737488355328) (hbase : base ≤ w.heap.size) (hm : 0 < m) {v' : Value} {w' : World}
    (hrun : (Builtin.append_ #[t, t] ty #[v, .slice (some a) m c]).run P w = .ok v' w') :
    w'.ownsRow base e size v n xs ∧ (∀ g, v'.ownBlock = some g → v.ownBlock = some g ∨ w.heap.size ≤ g) := by
  subst hsize
  subst hby
  have hsmall : n + m ≤ 9223372036854775807 := by simp only [maxLen] at h63; omega
  rcases hown.2 with ⟨rfl, rfl⟩ | ⟨g, cap, cur, rfl, hbg, hg, hnc, hcm, hcs, htake⟩
  · have hx : xs = [] := List.eq_nil_of_length_eq_zero (by simpa using hown.1)
    subst hx
    have hr := run_append_nil (P := P) w t ty e i z ht hi hz a m c news hl hnews hm (by omega) (by have hb := hbytes; simp only [Nat.zero_add] at hb; omega)
    rw [hr] at hrun
    simp only [Result.ok.injEq] at hrun
    obtain ⟨rfl, rfl⟩ := hrun
    exact ⟨World.ownsRow_nil _ _ _ _, fun g hg => .inr (by simp [Value.ownBlock] at hg; omega)⟩
  · by_cases hroom : n + m ≤ cap
    · have hfit : n * i.size + news.length ≤ cur.size := by rw [hl, hcs, ← Nat.add_mul]; exact Nat.mul_le_mul_right _ hroom
      have hr := run_append_room (P := P) w t ty e i ht hi g n cap cur hg a m c news hl hnews h1 hroom hfit
      rw [hr] at hrun
      simp only [Result.ok.injEq] at hrun
      obtain ⟨rfl, rfl⟩ := hrun
      refine ⟨⟨hown.1, .inr ⟨g, cap, _, rfl, hbg, setRow_heap w g cur _ e _ hg, hnc, hcm, ?_, ?_⟩⟩, fun g' hg' => .inl hg'⟩
      · simp only [List.size_toArray, List.length_append, List.length_take, List.length_drop, Array.length_toList]
        omega
      · rw [htake, List.append_assoc, ← hown.1]
        exact List.take_left
    · have holds : ∀ j u, xs[j]? = some u → w.cell? ((⟨g, 0, none⟩ : Addr).add j) = some u := hown.cells (g := g) rfl
      have hr := run_append_grow (P := P) w t ty e i z ht hi hz ⟨g, 0, none⟩ n cap xs hown.1 holds a m c news hl hnews (by omega) (by omega) (growslice_fits (by omega) hbytes)
      rw [hr] at hrun
      simp only [Result.ok.injEq] at hrun
      obtain ⟨rfl, rfl⟩ := hrun
      refine ⟨?_, fun g' hg' => .inr (by simp [Value.ownBlock] at hg'; omega)⟩
      exact (World.ownsRow.drew hown).alloc _

theorem wpList_append_stay {ops : Array Oper} {rest : List Oper} {o : Oper} {a : Act} {Q : Exit → Act → World → Prop} (hgd : o.guard = none) (s x : Operand) (t : TypeId)
    (ho : o.op = .call { callee := .builtin .append, args := #[s, x], argTypes := #[t, t] })
    (base : Nat) (e : TypeId) (i : TypeInfo) (z : Value) (size bytes : Nat) (ht : P.underlying t = some (.slice e)) (hi : P.info? e = some i) (hz : i.zero = some z)
    (hsize : i.size = size) (hby : i.bytes = bytes) (hzs : z.cells.size = size) (hsz : 0 < size)
    (v : Value) (n : Nat) (xs : List Value) (hs : a.eval s = v) (hown : w.ownsRow base e size v n xs)
    (ad : Addr) (m c : Nat) (news : List Value) (hx : a.eval x = .slice (some ad) m c) (hl : news.length = m * size) (hnews : ∀ j u, news[j]? = some u → w.cell? (ad.add j) = some u) (h1 : ∀ u ∈ news, u.oneCell' = true)
    (h63 : n + m ≤ maxLen) (hbytes : (n + m) * bytes ≤ 140737488355328) (hbase : base ≤ w.heap.size) (hm : 0 < m)
    (h : ∀ v' w', w'.ownsRow base e size v' (n + m) (xs ++ news) → w.grownBy w' v.ownBlock → w'.ownsRow base e size v n xs → (∀ g, v'.ownBlock = some g → v.ownBlock = some g ∨ w.heap.size ≤ g) → wpList P ops Q rest (a.put o.dst v') w') : wpList P ops Q (o :: rest) a w := by
  refine wpList_plain hgd fun K hK => ?_
  obtain ⟨v', w', hr, h2, h3, h4⟩ := run_append_own (P := P) w base t o.type e i z size bytes ht hi hz hsize hby hzs hsz v n xs hown ad m c news hl hnews h1 h63 hbytes hbase
  obtain ⟨h5, h6⟩ := append_stay (P := P) w base t o.type e i z size bytes ht hi hz hsize hby hzs hsz v n xs hown ad m c news hl hnews h1 h63 hbytes hbase hm hr
  unfold Oper.wp execOp
  simp only [ho, resolve, invoke, builtin, Sem.run_bind, Sem.run_pure, Result.andThen_ok, List.map_toArray, List.map_cons, List.map_nil, hs, hx, hr]
  exact hK _ _ (h v' w' h2 h3 h5 h6)
end

/-- A row that is the beginning of another one in its block. -/
theorem owns_pre {w w' : World} {B B' : Nat} {e : TypeId} {sz : Nat} {v lv : Value} {n m : Nat} {xs ys t : List Value} (hsz : 0 < sz) (h : w.ownsRow B e sz v n xs) (hl : w.ownsRow B' e sz lv m ys) {g : Nat} (hg : v.ownBlock = some g) (hg' : lv.ownBlock = some g)
    (hl' : w'.ownsRow B' e sz lv m ys) (ht : ys = xs ++ t) : w'.ownsRow B e sz v n xs := by
  refine ⟨h.1, ?_⟩
  rcases h.2 with ⟨rfl, _⟩ | ⟨k, cap, cur, rfl, hk, hh, h1, h2, h3, h4⟩
  · simp [Value.ownBlock] at hg
  rcases hl.2 with ⟨rfl, _⟩ | ⟨k', cap', cur', rfl, hk', hh', g1, g2, g3, g4⟩
  · simp [Value.ownBlock] at hg'
  simp only [Value.ownBlock, Option.some.injEq] at hg hg'
  subst hg; subst hg'
  rw [hh] at hh'
  simp only [Option.some.injEq, Obj.cells.injEq, and_true] at hh'
  have hcur : cur = cur' := hh'
  subst hcur
  have hcap : cap = cap' := by
    have : cap * sz = cap' * sz := by rw [← h3, ← g3]
    exact Nat.eq_of_mul_eq_mul_right hsz this
  subst hcap
  rcases hl'.2 with ⟨hx, _⟩ | ⟨k2, cap2, cur2, hx, hk2, hh2, f1, f2, f3, f4⟩
  · simp at hx
  simp only [Value.slice.injEq, Option.some.injEq, Addr.mk.injEq, and_true, true_and] at hx
  obtain ⟨rfl, rfl⟩ := hx
  refine .inr ⟨_, _, cur2, rfl, hk, hh2, h1, h2, f3, ?_⟩
  have hnm : n * sz ≤ m * sz := by rw [← h.1, ← hl.1, ht]; simp
  have e1 : cur2.toList.take (n * sz) = (cur2.toList.take (m * sz)).take (n * sz) := by rw [List.take_take, Nat.min_eq_left hnm]
  rw [e1, f4, ht, ← h.1, List.take_left]

theorem owns_frozen {w : World} {B : Nat} {e : TypeId} {sz : Nat} {v : Value} {n : Nat} {xs : List Value} (h : w.ownsRow B e sz v n xs) {g : Nat} (hg : v.ownBlock = some g) (o : Nat) : w.frozen? ⟨g, o, none⟩ = false := by
  rcases h.2 with ⟨rfl, _⟩ | ⟨k, cap, cur, rfl, hk, hh, _⟩
  · simp [Value.ownBlock] at hg
  · simp only [Value.ownBlock, Option.some.injEq] at hg
    subst hg
    simp [World.frozen?, hh]

/-- What is laid behind the end. -/
def pad (l : List Value) : Nat → List Value
  | 0 => []
  | k + 1 => pad l k ++ l

end Go.Proofs.Ytblhmeidbjigaaa

/- Storing into a hint of one's own. -/
set_option linter.unusedSimpArgs false
set_option linter.unusedVariables false
namespace Go.Proofs.Ytblhmeidbjigaaa
open Go.RowKit

/-- What lay there has not turned, but for the blocks of S. -/
structure Keep (S : Nat → Prop) (w w' : World) : Prop where
  os : w'.os = w.os
  tape : w'.tape = w.tape
  output : w'.output = w.output
  size : w.heap.size ≤ w'.heap.size
  block : ∀ k, k < w.heap.size → ¬ S k → w'.heap[k]? = w.heap[k]?

theorem Keep.refl (S : Nat → Prop) (w : World) : Keep S w w := ⟨rfl, rfl, rfl, Nat.le_refl _, fun _ _ _ => rfl⟩

theorem Keep.step {S : Nat → Prop} {w a b : World} (h : Keep S w a) (hos : b.os = a.os) (ht : b.tape = a.tape) (ho : b.output = a.output) (hs : a.heap.size ≤ b.heap.size) (hb : ∀ k, k < w.heap.size → ¬ S k → b.heap[k]? = a.heap[k]?) : Keep S w b :=
  ⟨hos.trans h.os, ht.trans h.tape, ho.trans h.output, Nat.le_trans h.size hs, fun k hk hn => (hb k hk hn).trans (h.block k hk hn)⟩

theorem Keep.alloc {S : Nat → Prop} {w a : World} (h : Keep S w a) (o : Obj) : Keep S w (a.alloc o) :=
  h.step rfl rfl rfl (by simp) fun k hk _ => Below.heap_alloc _ _ _ (Nat.lt_of_lt_of_le hk h.size)

theorem Keep.setCell {S : Nat → Prop} {w a : World} (h : Keep S w a) {p : Addr} (hp : S p.block ∨ w.heap.size ≤ p.block) (u : Value) : Keep S w (a.setCell p u) :=
  h.step rfl rfl rfl (by simp) fun k hk hn => Below.heap_setCell _ _ _ _ (fun e => by subst e; rcases hp with hp | hp; exact hn hp; omega)

theorem Keep.grown {S : Nat → Prop} {w a b : World} {row : Option Nat} (h : Keep S w a) (hg : a.grownBy b row) (hr : ∀ g, row = some g → S g ∨ w.heap.size ≤ g) : Keep S w b :=
  h.step hg.os hg.tape hg.output hg.size fun k hk hn => hg.block k (Nat.lt_of_lt_of_le hk h.size) (fun e => by rcases hr k e.symm with hp | hp; exact hn hp; omega)

theorem Keep.below {S : Nat → Prop} {w a b : World} (h : Keep S w a) {B : Nat} (hb : Below B a b) (hB : w.heap.size ≤ B) : Keep S w b :=
  h.step hb.os hb.tape hb.output hb.size fun k hk _ => hb.block k (by omega)

theorem Keep.toBelow {S : Nat → Prop} {w a : World} (h : Keep S w a) {B : Nat} (hB : B ≤ w.heap.size) (hS : ∀ k, S k → B ≤ k) : Below B w a :=
  ⟨h.os, h.tape, h.output, h.size, fun k hk => h.block k (by omega) (fun hk' => by have := hS k hk'; omega)⟩

theorem Keep.cell {S : Nat → Prop} {w a : World} (h : Keep S w a) {b o : Nat} (hb : ¬ S b) {u : Value} (hc : w.cell? ⟨b, o, none⟩ = some u) : a.cell? ⟨b, o, none⟩ = some u :=
  (World.cell?_of_block (w := w) (h.block b (World.block_lt_of_cell? w _ hc) hb)).trans hc

theorem owns_set {w : World} {B : Nat} {e : TypeId} {sz : Nat} {v : Value} {n : Nat} {xs : List Value} (h : w.ownsRow B e sz v n xs) {g i : Nat} (hg : v.ownBlock = some g) (hi : i < xs.length) (u : Value) :
    (w.setCell ⟨g, i, none⟩ u).ownsRow B e sz v n (xs.set i u) := by
  refine ⟨by rw [List.length_set]; exact h.1, ?_⟩
  rcases h.2 with ⟨rfl, _⟩ | ⟨k, cap, cur, rfl, hk, hh, h1, h2, h3, h4⟩
  · simp [Value.ownBlock] at hg
  simp only [Value.ownBlock, Option.some.injEq] at hg
  subst hg
  refine .inr ⟨k, cap, cur.setIfInBounds i u, rfl, hk, heap_setCell_same w k i cur e u hh, h1, h2, by simpa using h3, ?_⟩
  rw [Array.toList_setIfInBounds, List.take_set, h4]

theorem owns_unset {w : World} {B : Nat} {e : TypeId} {sz : Nat} {v : Value} {n : Nat} {xs : List Value} (h : w.ownsRow B e sz v n xs) {g i : Nat} (hg : v.ownBlock ≠ some g) (u : Value) :
    (w.setCell ⟨g, i, none⟩ u).ownsRow B e sz v n xs :=
  owns_same h fun k hk => Below.heap_setCell _ _ _ _ (fun e => hg (by rw [hk, e]))

end Go.Proofs.Ytblhmeidbjigaaa

/- Rows of memory as lists: made, copied into, written. -/
set_option linter.unusedSimpArgs false
set_option linter.unusedVariables false
namespace Go.Proofs.Ytblhmeidbjigaaa
open Go.RowKit

/-- Block g is a row of cells xs of type e, none frozen. -/
def Row (w : World) (g : Nat) (e : TypeId) (xs : List Value) : Prop := w.heap[g]? = some (.cells xs.toArray e (0, 0))

/-- Only block g may have turned; no block has come or gone. -/
structure Upd (g : Nat) (w w' : World) : Prop where
  os : w'.os = w.os
  tape : w'.tape = w.tape
  output : w'.output = w.output
  size : w'.heap.size = w.heap.size
  block : ∀ k, k ≠ g → w'.heap[k]? = w.heap[k]?

theorem Upd.below {g B : Nat} {w0 w w' : World} (h : Upd g w w') (hb : Below B w0 w) (hg : B ≤ g) : Below B w0 w' :=
  hb.trans ⟨h.os, h.tape, h.output, Nat.le_of_eq h.size.symm, fun k hk => h.block k (by omega)⟩

theorem Upd.cell {g : Nat} {w w' : World} (h : Upd g w w') {b o : Nat} (hb : b ≠ g) : w'.cell? ⟨b, o, none⟩ = w.cell? ⟨b, o, none⟩ := World.cell?_of_block (w := w) (h.block b hb)

theorem Row.cell {w : World} {g : Nat} {e : TypeId} {xs : List Value} (h : Row w g e xs) {i : Nat} {u : Value} (hi : xs[i]? = some u) : w.cell? ⟨g, i, none⟩ = some u := by
  unfold Row at h
  simp [World.cell?, h, hi]

theorem Row.frozen {w : World} {g : Nat} {e : TypeId} {xs : List Value} (h : Row w g e xs) (i : Nat) : w.frozen? ⟨g, i, none⟩ = false := by
  unfold Row at h
  simp [World.frozen?, h]

theorem Row.lt {w : World} {g : Nat} {e : TypeId} {xs : List Value} (h : Row w g e xs) : g < w.heap.size := (Array.getElem?_eq_some_iff.1 h).1

theorem Row.same {w w' : World} {g : Nat} {e : TypeId} {xs : List Value} (h : Row w g e xs) (hs : w'.heap[g]? = w.heap[g]?) : Row w' g e xs := hs.trans h

theorem Row.below {w w' : World} {g B : Nat} {e : TypeId} {xs : List Value} (h : Row w g e xs) (hb : Below B w w') (hg : g < B) : Row w' g e xs := h.same (hb.block g hg)

theorem Row.keep {w w' : World} {g : Nat} {e : TypeId} {xs : List Value} (h : Row w g e xs) (hb : Below w.heap.size w w') : Row w' g e xs := h.below hb h.lt

theorem Row.alloc {w : World} {g : Nat} {e : TypeId} {xs : List Value} (h : Row w g e xs) (o : Obj) : Row (w.alloc o) g e xs := h.same (Below.heap_alloc w o g h.lt)

theorem Row.set {w : World} {g : Nat} {e : TypeId} {xs : List Value} (h : Row w g e xs) (i : Nat) (u : Value) : Row (w.setCell ⟨g, i, none⟩ u) g e (xs.set i u) := by
  have := heap_setCell_same w g i xs.toArray e u h
  unfold Row
  rw [this]
  simp

theorem Row.unset {w : World} {g : Nat} {e : TypeId} {xs : List Value} (h : Row w g e xs) {a : Addr} (ha : g ≠ a.block) (u : Value) : Row (w.setCell a u) g e xs := h.same (Below.heap_setCell _ _ _ _ ha)

theorem pad_length (l : List Value) (n : Nat) : (pad l n).length = n * l.length := by
  induction n with
  | zero => simp [pad]
  | succ n ih => simp [pad, ih, Nat.add_mul]

theorem pad_get (l : List Value) (n i : Nat) (hi : i < n * l.length) : (pad l n)[i]? = l[i % l.length]? := by
  induction n with
  | zero => omega
  | succ n ih =>
    have hp := pad_length l n
    rw [pad]
    by_cases h : i < n * l.length
    · rw [List.getElem?_append_left (by omega), ih h]
    · rw [List.getElem?_append_right (by omega), hp]
      have h1 : i < n * l.length + l.length := by rw [Nat.add_mul, Nat.one_mul] at hi; exact hi
      have e : i % l.length = i - n * l.length := by
        have : i = (i - n * l.length) + l.length * n := by rw [Nat.mul_comm l.length n]; omega
        rw [this, Nat.add_mul_mod_self_left, Nat.mod_eq_of_lt (by omega)]
        rw [Nat.mul_comm l.length n]; omega
      rw [e]

theorem made_pad (l : List Value) (n : Nat) (hl : 0 < l.length) : madeCells l.toArray (n * l.length) = (pad l n).toArray := by
  apply Array.ext'
  apply List.ext_getElem?
  intro i
  by_cases hi : i < n * l.length
  · have hm : i % l.length < l.length := Nat.mod_lt _ hl
    show _ = (pad l n)[i]?
    rw [pad_get l n i hi]
    simp [madeCells, hi, hm]
  · have h1 : (pad l n).length ≤ i := by rw [pad_length]; omega
    show _ = (pad l n)[i]?
    rw [List.getElem?_eq_none h1]
    simp [madeCells]; omega

section
variable {P : Program} (w : World)

theorem wpList_make_row {ops : Array Oper} {rest : List Oper} {o : Oper} {a : Act} {Q : Exit → Act → World → Prop}
    (hg : o.guard = none) (l c : Operand) (t : TypeId) (hop : o.op = Op.makeSlice t l c)
    (e : TypeId) (i : TypeInfo) (z : Value) (zl : List Value) (h1 : P.underlying t = some (.slice e)) (h2 : P.info? e = some i) (h3 : i.zero = some z) (h4 : i.size = zl.length) (hz : z.cells = zl.toArray) (hzl : 0 < zl.length)
    (kl kc : IntKind) (L C : Int) (n : Nat) (hl : a.eval l = .int kl L) (hc : a.eval c = .int kc C) (hL : L = (n : Int)) (hC : C = (n : Int)) (b2 : i.bytes * n ≤ 281474976710656) (b3 : n ≤ maxLen)
    (hK : ∀ w', Row w' w.heap.size e (pad zl n) → Below w.heap.size w w' → Hid (w'.heap.size = w.heap.size + 1) → wpList P ops Q rest (a.put o.dst (.slice (some ⟨w.heap.size, 0, none⟩) n n)) w') :
    wpList P ops Q (o :: rest) a w := by
  refine wpList_plain hg fun K hK' => ?_
  have h63' : (n : Int) ≤ 9223372036854775807 := by
    have h := b3
    simp [maxLen] at h
    omega
  have hb' : (i.bytes : Int) * (n : Int) ≤ 281474976710656 := by
    have h : ((i.bytes * n : Nat) : Int) ≤ 281474976710656 := by omega
    rwa [Int.natCast_mul] at h
  have hr := run_make (P := P) w t e i z h1 h2 h3 kl kc n n (by omega) (Int.le_refl _) hb' h63'
  simp only [Int.toNat_natCast] at hr
  subst hL
  subst hC
  unfold Oper.wp
  simp [execOp, hop, hl, hc, hr, Result.andThen]
  refine hK' _ _ (hK _ ?_ ((Below.refl _ _).alloc (Nat.le_refl _) _) (by show _ = _; simp))
  unfold Row
  rw [heap_alloc_new, h4, hz, made_pad zl n hzl]

theorem wpList_copy_row {ops : Array Oper} {rest : List Oper} {o : Oper} {a : Act} {Q : Exit → Act → World → Prop} (hgd : o.guard = none) (d s : Operand) (t : TypeId)
    (ho : o.op = .call { callee := .builtin .copy, args := #[d, s], argTypes := #[t, t] }) (e : TypeId) (i : TypeInfo) (h1 : P.underlying t = some (.slice e)) (h2 : P.info? e = some i) (size : Nat) (h4 : i.size = size)
    (g dLen dCap : Nat) (so : Option Addr) (sLen sCap : Nat) (hd : a.eval d = .slice (some ⟨g, 0, none⟩) dLen dCap) (hs : a.eval s = .slice so sLen sCap)
    (xs : List Value) (hrow : Row w g e xs) (cs : List Value) (hn : cs.length = Nat.min sLen dLen * size) (hsrc : so = none → cs = []) (hsrc2 : ∀ ad, so = some ad → ∀ j v, cs[j]? = some v → w.cell? (ad.add j) = some v)
    (hfit : cs.length ≤ xs.length) (hone : ∀ v ∈ cs, v.oneCell' = true)
    (hK : ∀ w', Row w' g e (cs ++ xs.drop cs.length) → Upd g w w' → wpList P ops Q rest (a.put o.dst (goInt (Nat.min sLen dLen))) w') : wpList P ops Q (o :: rest) a w := by
  refine wpList_plain hgd fun K hK' => ?_
  have hst := run_storeCells_at P g 0 e cs 0 xs.toArray w hrow (by simpa using hfit) hone
  have hrun : (Builtin.copy_ #[t, t] o.type #[.slice (some ⟨g, 0, none⟩) dLen dCap, .slice so sLen sCap]).run P w = .ok (goInt (Nat.min sLen dLen)) (w.setRow g (cs ++ xs.drop cs.length).toArray) := by
    cases so with
    | none =>
      have hc := hsrc rfl
      subst hc
      have e0 : w.setRow g xs.toArray = w := setRow_self w g xs.toArray e (0, 0) hrow
      simp [Builtin.copy_, run_underlying h1, Builtin.lenOf, Builtin.firstCells, sizeOf, typeInfo, h2, storeCells, e0]
    | some ad =>
      have hl := run_firstCells_some (P := P) w size (Nat.min sLen dLen) ad sLen sCap cs hn (hsrc2 ad rfl)
      simp only [Nat.zero_add, List.take_zero, List.nil_append] at hst
      simp [Builtin.copy_, run_underlying h1, Builtin.lenOf, sizeOf, typeInfo, h2, h4, hl, hst]
  unfold Oper.wp
  simp [execOp, ho, resolve, invoke, builtin, hd, hs, hrun, Result.andThen]
  refine hK' _ _ (hK _ ?_ ⟨rfl, rfl, rfl, by simp, fun k hk => setRow_other w g k _ hk⟩)
  exact setRow_heap w g _ _ e _ hrow
end

end Go.Proofs.Ytblhmeidbjigaaa

/- Programs as plain data; how they lie in memory. -/
set_option linter.unusedSimpArgs false
set_option linter.unusedVariables false
namespace Go.Proofs.Ytblhmeidbjigaaa
open Go.RowKit

structure OpD where
  kind : Int
  a : Int
  b : Int
  c : Int

structure EndD where
  kind : Int
  r : Int
  x : Int
  y : Int

structure BlockD where
  ops : List OpD
  fin : EndD

structure ProgD where
  args : Int
  regs : Int
  data : Int
  slots : Int
  blocks : List BlockD

def oz : OpD := ⟨0, 0, 0, 0⟩
def ez : EndD := ⟨0, 0, 0, 0⟩
def bz : BlockD := ⟨[], ez⟩

def okind (l : List OpD) (k : Nat) : Int := (l.getD k oz).kind
def oa (l : List OpD) (k : Nat) : Int := (l.getD k oz).a
def ob (l : List OpD) (k : Nat) : Int := (l.getD k oz).b
def oc (l : List OpD) (k : Nat) : Int := (l.getD k oz).c
def bops (l : List BlockD) (k : Nat) : List OpD := (l.getD k bz).ops
def bfin (l : List BlockD) (k : Nat) : EndD := (l.getD k bz).fin
def bek (l : List BlockD) (k : Nat) : Int := (bfin l k).kind
def ber (l : List BlockD) (k : Nat) : Int := (bfin l k).r
def bex (l : List BlockD) (k : Nat) : Int := (bfin l k).x
def bey (l : List BlockD) (k : Nat) : Int := (bfin l k).y

/-! ### Well made -/

def opGood (regs slots : Int) (o : OpD) : Bool :=
  if o.kind = 1 then below o.a regs && below o.b 256 && below o.c 256
  else if 3 ≤ o.kind ∧ o.kind ≤ 11 then below o.a regs && below o.b regs && below o.c regs
  else if o.kind = 2 ∨ o.kind = 12 ∨ o.kind = 13 then below o.a regs && below o.b regs && decide (o.c = 0)
  else if o.kind = 14 then below o.a slots && below o.b regs && decide (o.c = 0)
  else if o.kind = 15 then below o.a regs && below o.b slots && decide (o.c = 0)
  else false

def endGood (regs n : Int) (e : EndD) : Bool :=
  if e.kind = 1 then decide (e.r = 0) && below e.x n && decide (e.y = 0)
  else if e.kind = 2 then below e.r regs && below e.x n && below e.y n
  else if e.kind = 3 then below e.r regs && decide (e.x = 0) && decide (e.y = 0)
  else false

def opsGood (regs slots : Int) (l : List OpD) : Bool := l.all (opGood regs slots)

def blockGood (regs slots n : Int) (b : BlockD) : Bool := decide (b.ops.length ≤ 12) && opsGood regs slots b.ops && endGood regs n b.fin

def blocksGood (regs slots n : Int) (l : List BlockD) : Bool := l.all (blockGood regs slots n)

def progGood (p : ProgD) : Bool :=
  decide (1 ≤ p.regs ∧ p.regs ≤ 8) && decide (0 ≤ p.args ∧ p.args ≤ p.regs) && decide (0 ≤ p.data ∧ p.data ≤ 8) && decide (0 ≤ p.slots ∧ p.slots ≤ 8) && decide (1 ≤ p.blocks.length ∧ p.blocks.length ≤ 6) &&
    blocksGood p.regs p.slots p.blocks.length p.blocks

def ogFrom (regs slots : Int) (l : List OpD) (k : Nat) : Bool := opsGood regs slots (l.drop k)
def bgFrom (regs slots n : Int) (l : List BlockD) (k : Nat) : Bool := blocksGood regs slots n (l.drop k)

theorem ogFrom_end {regs slots : Int} {l : List OpD} {k : Nat} (h : l.length ≤ k) : ogFrom regs slots l k = true := by
  unfold ogFrom; rw [List.drop_of_length_le h]; rfl
theorem ogFrom_step {regs slots : Int} {l : List OpD} {k : Nat} (h : k < l.length) : ogFrom regs slots l k = (opGood regs slots ⟨okind l k, oa l k, ob l k, oc l k⟩ && ogFrom regs slots l (k + 1)) := by
  unfold ogFrom; rw [drop_getD l oz k h]; rfl
theorem bgFrom_end {regs slots n : Int} {l : List BlockD} {k : Nat} (h : l.length ≤ k) : bgFrom regs slots n l k = true := by
  unfold bgFrom; rw [List.drop_of_length_le h]; rfl
theorem bgFrom_step {regs slots n : Int} {l : List BlockD} {k : Nat} (h : k < l.length) : bgFrom regs slots n l k = (blockGood regs slots n ⟨bops l k, ⟨bek l k, ber l k, bex l k, bey l k⟩⟩ && bgFrom regs slots n l (k + 1)) := by
  unfold bgFrom; rw [drop_getD l bz k h]; rfl

/-! ### In memory -/

def RdOps (w : World) (v : Value) (l : List OpD) : Prop :=
  ∃ ao cap, v = .slice ao l.length cap ∧ l.length ≤ 9223372036854775807 ∧ ∀ i, i < l.length → ∃ b off, ao = some ⟨b, off, none⟩ ∧
    w.cell? ⟨b, off + i * 4, none⟩ = some (.int .i64 (okind l i)) ∧ w.cell? ⟨b, off + i * 4 + 1, none⟩ = some (.int .i64 (oa l i)) ∧ w.cell? ⟨b, off + i * 4 + 2, none⟩ = some (.int .i64 (ob l i)) ∧ w.cell? ⟨b, off + i * 4 + 3, none⟩ = some (.int .i64 (oc l i))

def RdBlocks (w : World) (v : Value) (l : List BlockD) : Prop :=
  ∃ ao cap, v = .slice ao l.length cap ∧ l.length ≤ 9223372036854775807 ∧ ∀ i, i < l.length → ∃ b off sv, ao = some ⟨b, off, none⟩ ∧
    w.cell? ⟨b, off + i * 5, none⟩ = some sv ∧ w.cell? ⟨b, off + i * 5 + 1, none⟩ = some (.int .i64 (bek l i)) ∧ w.cell? ⟨b, off + i * 5 + 2, none⟩ = some (.int .i64 (ber l i)) ∧ w.cell? ⟨b, off + i * 5 + 3, none⟩ = some (.int .i64 (bex l i)) ∧ w.cell? ⟨b, off + i * 5 + 4, none⟩ = some (.int .i64 (bey l i)) ∧
    RdOps w sv (bops l i)

theorem RdOps.keep {w w' : World} {v : Value} {l : List OpD} (h : RdOps w v l) (hb : Below w.heap.size w w') : RdOps w' v l := by
  obtain ⟨ao, cap, rfl, hl, hc⟩ := h
  exact ⟨ao, cap, rfl, hl, fun i hi => let ⟨b, off, e, h1, h2, h3, h4⟩ := hc i hi; ⟨b, off, e, cell_keep hb h1, cell_keep hb h2, cell_keep hb h3, cell_keep hb h4⟩⟩

theorem RdBlocks.keep {w w' : World} {v : Value} {l : List BlockD} (h : RdBlocks w v l) (hb : Below w.heap.size w w') : RdBlocks w' v l := by
  obtain ⟨ao, cap, rfl, hl, hc⟩ := h
  exact ⟨ao, cap, rfl, hl, fun i hi => let ⟨b, off, sv, e, h1, h2, h3, h4, h5, h6⟩ := hc i hi; ⟨b, off, sv, e, cell_keep hb h1, cell_keep hb h2, cell_keep hb h3, cell_keep hb h4, cell_keep hb h5, h6.keep hb⟩⟩

/-- A program as a value. -/
def progV (p : ProgD) (v : Value) : Value := .agg #[.int .i64 p.args, .int .i64 p.regs, .int .i64 p.data, .int .i64 p.slots, v]

/-! ### Texts -/

def opText (o : OpD) : List UInt8 := [byt o.kind, byt o.a, byt o.b, byt o.c]
def opsText (l : List OpD) : List UInt8 := l.flatMap opText
def endText (e : EndD) : List UInt8 := [byt e.kind, byt e.r, byt e.x, byt e.y]
def blockText (b : BlockD) : List UInt8 := [byt b.ops.length] ++ opsText b.ops ++ endText b.fin
def headText (p : ProgD) : List UInt8 := [84, 87, byt p.args, byt p.regs, byt p.data, byt p.slots, byt p.blocks.length]
def progText (p : ProgD) : List UInt8 := headText p ++ p.blocks.flatMap blockText

theorem opsText_length (l : List OpD) : (opsText l).length = 4 * l.length := by
  induction l with
  | nil => rfl
  | cons p r ih => simp only [opsText, List.flatMap_cons, List.length_append, List.length_cons, opText, List.length_nil] at *; omega

theorem blockText_length (b : BlockD) : (blockText b).length = 5 + 4 * b.ops.length := by
  simp [blockText, opsText_length, endText]; omega

/-- A block's text as far as its first k operations. -/
def blockTo (l : List OpD) (k : Nat) : ByteArray := str ([byt l.length] ++ opsText (l.take k))

theorem blockTo_step {l : List OpD} {k : Nat} (h : k < l.length) : blockTo l (k + 1) = blockTo l k ++ ⟨#[byt (okind l k), byt (oa l k), byt (ob l k), byt (oc l k)]⟩ := by
  show _ = str _ ++ str [_, _, _, _]
  rw [str_append]
  simp [blockTo, opsText, take_getD l oz k h, okind, oa, ob, oc, opText]

theorem blockTo_end {l : List OpD} {k : Nat} (e : EndD) (h : l.length ≤ k) : blockTo l k ++ ⟨#[byt e.kind, byt e.r, byt e.x, byt e.y]⟩ = str (blockText ⟨l, e⟩) := by
  show str _ ++ str [_, _, _, _] = _
  rw [str_append]
  simp [blockText, endText, List.take_of_length_le h]

theorem blockTo_size (l : List OpD) (k : Nat) (h : k ≤ l.length) : (blockTo l k).size = 1 + 4 * k := by
  simp [blockTo, str, ByteArray.size, opsText_length, List.length_take, Nat.min_eq_left h]
  omega

/-- A program's text as far as its first k blocks. -/
def progTo (p : ProgD) (k : Nat) : ByteArray := str (headText p ++ (p.blocks.take k).flatMap blockText)

theorem progTo_step {p : ProgD} {k : Nat} (h : k < p.blocks.length) : progTo p (k + 1) = progTo p k ++ str (blockText ⟨bops p.blocks k, ⟨bek p.blocks k, ber p.blocks k, bex p.blocks k, bey p.blocks k⟩⟩) := by
  unfold progTo
  rw [str_append, take_getD p.blocks bz k h, List.flatMap_append, List.append_assoc]
  simp [bops, bek, ber, bex, bey, bfin]

theorem progTo_end {p : ProgD} {k : Nat} (h : p.blocks.length ≤ k) : progTo p k = str (progText p) := by
  simp [progTo, progText, List.take_of_length_le h]

theorem progGood_len {p : ProgD} (hg : progGood p = true) : 1 ≤ p.blocks.length ∧ p.blocks.length ≤ 6 := by
  simp [progGood] at hg; omega

theorem progGood_block {p : ProgD} (hg : progGood p = true) (x : BlockD) (hx : x ∈ p.blocks) : blockGood p.regs p.slots p.blocks.length x = true := by
  simp [progGood, blocksGood] at hg; exact hg.2 x hx

theorem progGood_ops {p : ProgD} (hg : progGood p = true) {k : Nat} (hk : k < p.blocks.length) : (bops p.blocks k).length ≤ 12 := by
  have := progGood_block hg (p.blocks.getD k bz) (getD_mem' hk)
  simp [blockGood] at this
  exact this.1.1

theorem bflat_le {l : List BlockD} (h : ∀ x ∈ l, x.ops.length ≤ 12) : (l.flatMap blockText).length ≤ 53 * l.length := by
  induction l with
  | nil => simp
  | cons x r ih =>
    have h1 := h x (by simp)
    have h2 := ih (fun y hy => h y (by simp [hy]))
    simp only [List.flatMap_cons, List.length_append, blockText_length, List.length_cons]
    omega

theorem progTo_size {p : ProgD} (hg : progGood p = true) (k : Nat) : (progTo p k).size ≤ 330 := by
  have h1 := progGood_len hg
  have h2 := bflat_le (l := p.blocks.take k) (fun x hx => by
    have := progGood_block hg x (List.mem_of_mem_take hx)
    simp [blockGood] at this
    exact this.1.1)
  have h3 : (p.blocks.take k).length ≤ 6 := Nat.le_trans (List.length_take_le' _ _) h1.2
  have e : (progTo p k).size = 7 + ((p.blocks.take k).flatMap blockText).length := by
    simp [progTo, str, ByteArray.size, headText]; omega
  omega

end Go.Proofs.Ytblhmeidbjigaaa
