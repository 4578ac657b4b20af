/- Leaf functions of the codec: what each call gives. -/
import Derived.Test.YtblhmeidbjigaaaGreatDoorRows
import Derived.WalkKit
import Derived.WalkSpells
import Derived.WalkLawsBesides
import Derived.Laws.BytesArg
import Derived.Deep.QuietTactic
import Derived.BigQuiet
import Derived.Deep.RegionHeld3
import Derived.Lib.ItoaNum

set_option linter.unusedSimpArgs false
set_option linter.unusedVariables false
namespace Go.Proofs.YtblhmeidbjigaaaGreatDoor
open Go.RowKit

/-- isBelow -/
def below (a b : Int) : Bool := decide (0 ≤ a ∧ a < b)

/-- byteAt -/
def byteOr (d : Int) (s : ByteArray) (i : Int) : Int := if 0 ≤ i ∧ i < s.size then (s[i.toNat]!).toNat else d

def byt (n : Int) : UInt8 := UInt8.ofNat (n % 256).toNat

theorem wrap64_u8 (b : UInt8) : wrap64 (b.toNat : Int) = b.toNat := IntWalk.wrap64_in _ (by have := b.toNat_lt; omega)

theorem conv1 (w : World) (x : Int) : (convert 190 9 (.slice (some ⟨w.heap.size, 0, none⟩) 1 1)).run Tryz.prog (w.alloc (.cells #[.int .u8 x] 5)) = .ok (.string ⟨#[UInt8.ofNat x.toNat]⟩) (w.alloc (.cells #[.int .u8 x] 5)) := by
  refine run_convert_bytes_arg _ 190 5 Tryz.underlying190 Tryz.underlying5 _ 0 1 1 [x] rfl ?_ _ Tryz.underlying9
  intro i hi
  obtain rfl : i = 0 := by omega
  simp

theorem conv4 (w : World) (x y z u : Int) : (convert 190 9 (.slice (some ⟨w.heap.size, 0, none⟩) 4 4)).run Tryz.prog (w.alloc (.cells #[.int .u8 x, .int .u8 y, .int .u8 z, .int .u8 u] 5)) = .ok (.string ⟨#[UInt8.ofNat x.toNat, UInt8.ofNat y.toNat, UInt8.ofNat z.toNat, UInt8.ofNat u.toNat]⟩) (w.alloc (.cells #[.int .u8 x, .int .u8 y, .int .u8 z, .int .u8 u] 5)) := by
  refine run_convert_bytes_arg _ 190 5 Tryz.underlying190 Tryz.underlying5 _ 0 4 4 [x, y, z, u] rfl ?_ _ Tryz.underlying9
  intro i hi
  obtain rfl | rfl | rfl | rfl : i = 0 ∨ i = 1 ∨ i = 2 ∨ i = 3 := by omega
  all_goals simp

set_option maxHeartbeats 400000 in
theorem isBelow_any (a b : Int) (w : World) :
    Calls Tryz.prog 133 #[.int .i64 a, .int .i64 b] w fun e w' => e = .returned (.bool (below a b)) ∧ w = w' := by
  by_cases h : 0 ≤ a
  · go_enter Tryz.func133, Tryz.ntmps133
    go_wp2
    go_ret
    exact ⟨by simp [below, h], rfl⟩
  · have hb : below a b = false := by simp only [below, h, false_and, decide_false]
    go_enter Tryz.func133, Tryz.ntmps133
    go_wp2
    go_ret
    exact ⟨rfl, rfl⟩

set_option maxHeartbeats 400000 in
theorem byteAt_any (s : ByteArray) (i : Int) (w : World) (hs : s.size ≤ maxLen) :
    Calls Tryz.prog 100 #[.string s, .int .i64 i] w fun e w' => e = .returned (.int .i64 (byteOr (-1) s i)) ∧ w = w' := by
  unfold maxLen at hs
  by_cases h : 0 ≤ i ∧ i < s.size
  · have hb : below i s.size = true := by simp [below, h]
    obtain ⟨h1, h2⟩ := h
    obtain ⟨n, rfl⟩ := Int.eq_ofNat_of_zero_le h1
    go_enter Tryz.func100, Tryz.ntmps100
    go_wp2_with (go_at_call 133; refine (isBelow_any _ _ _).mono ?_; rintro e w' ⟨rfl, rfl⟩)
    go_ret
    refine ⟨?_, rfl⟩
    simp [byteOr, h1, h2, getElem!_pos, show n < s.size by omega, wrap64_u8]
  · have hb : below i s.size = false := by simp only [below, h, decide_false]
    have hc : byteOr (-1) s i = -1 := by simp only [byteOr, h, if_false]
    go_enter Tryz.func100, Tryz.ntmps100
    go_wp2_with (go_at_call 133; refine (isBelow_any _ _ _).mono ?_; rintro e w' ⟨rfl, rfl⟩)
    go_ret
    exact ⟨by simp [hc], rfl⟩

set_option maxRecDepth 100000 in
set_option maxHeartbeats 400000 in
theorem oneByte_any (a : Int) (w : World) :
    Calls Tryz.prog 119 #[.int .i64 a] w fun e w' => e = .returned (.string ⟨#[byt a]⟩) ∧ Below w.heap.size w w' := by
  have hk := conv1 w
  go_enter Tryz.func119, Tryz.ntmps119
  go_wp2
  go_ret
  exact ⟨rfl, (Below.refl _ _).alloc (Nat.le_refl _) _⟩

set_option maxRecDepth 100000 in
set_option maxHeartbeats 400000 in
theorem fourBytes_any (a b c d : Int) (w : World) :
    Calls Tryz.prog 118 #[.int .i64 a, .int .i64 b, .int .i64 c, .int .i64 d] w fun e w' => e = .returned (.string ⟨#[byt a, byt b, byt c, byt d]⟩) ∧ Below w.heap.size w w' := by
  have hk := conv4 w
  go_enter Tryz.func118, Tryz.ntmps118
  go_wp2
  go_ret
  exact ⟨rfl, (Below.refl _ _).alloc (Nat.le_refl _) _⟩

end Go.Proofs.YtblhmeidbjigaaaGreatDoor

/- Leaf functions of the document's answer: what each call gives. -/
set_option linter.unusedSimpArgs false
set_option linter.unusedVariables false
namespace Go.Proofs.YtblhmeidbjigaaaGreatDoor
open Go.RowKit

/-- The k-th number of a list (kept from the walk's own rules). -/
def el (xs : List Int) (k : Nat) : Int := xs.getD k 0
/-- The first k numbers as bytes in cells. -/
def rowB (xs : List Int) (k : Nat) : List Value := (xs.take k).map fun n => Value.int .u8 (n % 256)

end Go.Proofs.YtblhmeidbjigaaaGreatDoor

/- Hints and programs as plain data; how they lie in memory. -/
set_option linter.unusedSimpArgs false
set_option linter.unusedVariables false
namespace Go.Proofs.YtblhmeidbjigaaaGreatDoor
open Go.RowKit

/-! ### Plain data -/

structure PairD where
  reg : Int
  place : Int

structure PingD where
  src : Int
  pairs : List PairD

def hz : PingD := ⟨0, []⟩

/-! ### Well made hints -/

theorem drop_getD {α : Type} (l : List α) (d : α) (k : Nat) (h : k < l.length) : l.drop k = l.getD k d :: l.drop (k + 1) := by
  rw [List.drop_eq_getElem_cons h]; simp [h]

/-! ### How they lie in memory -/

theorem cell_keep {w w' : World} (hb : Below w.heap.size w w') {a : Addr} {v : Value} (h : w.cell? a = some v) : w'.cell? a = some v :=
  (hb.cell (World.block_lt_of_cell? w a h)).trans h

/-- A frame that opened with one new block. -/
theorem Below.under {w w' : World} {o : Obj} (h : Below (w.heap.size + 1) (w.alloc o) w') : Below w.heap.size w w' :=
  ((Below.refl w.heap.size w).alloc (Nat.le_refl _) o).trans (h.mono (by omega))

/-! ### A region whose order is open, its calls making memory: any world that keeps what lay below B -/

structure Past (B : Nat) (w : World) where
  wd : World
  ok : Below B w wd

theorem wp_region_past {P : Program} {id : Nat} {Q : Exit → Act → World → Prop} {a : Act} {w : World} {l : List Oper} (B : Nat) (hm : P.follows .mixedOrders = true) (hB : Region.lexB .any l.toArray = true)
    (h : wpQuiet P l.toArray (fun w' => ∃ x : Past B w, w' = x.wd) (fun a' => ∀ w', (∃ x : Past B w, w' = x.wd) → Q .normal a' w') l a) : (Code.region id l.toArray true).wp P Q a w :=
  wp_region_quiet (C := fun w' => ∃ x : Past B w, w' = x.wd) hm hB ⟨⟨w.drew, (Below.refl B w).drew⟩, rfl⟩ (by simpa using h)

theorem Calls.past_of {P : Program} {f : FuncId} {args : Array Value} {w : World} {B : Nat} {x : Past B w} {v : Value} (hB : B ≤ w.heap.size)
    (h : Calls P f args x.wd fun e w' => e = .returned v ∧ Below x.wd.heap.size x.wd w') : Calls P f args x.wd fun e w'' => e = .returned v ∧ ∃ y : Past B w, w'' = y.wd :=
  h.mono fun _ w' ⟨he, hb⟩ => ⟨he, ⟨w', x.ok.trans (hb.mono (Nat.le_trans hB x.ok.size))⟩, rfl⟩

theorem Past.any (B : Nat) (w : World) : Nonempty (Past B w) := ⟨⟨w, Below.refl B w⟩⟩

theorem Past.cell {w : World} (x : Past w.heap.size w) {a : Addr} {v : Value} (h : w.cell? a = some v) : x.wd.cell? a = some v := cell_keep x.ok h

theorem owns_slice {w : World} {base : Nat} {e : TypeId} {size : Nat} {v : Value} {n : Nat} {xs : List Value} (h : w.ownsRow base e size v n xs) : ∃ ao cap, v = .slice ao n cap := by
  rcases h.2 with ⟨rfl, rfl⟩ | ⟨g, cap, cur, rfl, _⟩
  · exact ⟨_, _, rfl⟩
  · exact ⟨_, _, rfl⟩

theorem owns_base {w : World} {base base' : Nat} {e : TypeId} {size : Nat} {v : Value} {n : Nat} {xs : List Value} (h : w.ownsRow base e size v n xs) (hb : base' ≤ base) : w.ownsRow base' e size v n xs := by
  refine ⟨h.1, ?_⟩
  rcases h.2 with h2 | ⟨g, cap, cur, hv, hg, r⟩
  · exact .inl h2
  · exact .inr ⟨g, cap, cur, hv, Nat.le_trans hb hg, r⟩

theorem cell_set {w : World} {a : Addr} {u v : Value} (h : w.cell? a = some u) : (w.setCell a v).cell? a = some v := World.cell?_setCell_same _ _ _ h

theorem cell_unset {w : World} {a b : Addr} {u v : Value} (hn : a ≠ b) (h : w.cell? b = some u) : (w.setCell a v).cell? b = some u := (World.cell?_setCell_other _ _ _ _ hn).trans h

/-! ### Texts -/

/-- A text out of bytes. -/
def str (l : List UInt8) : ByteArray := ⟨l.toArray⟩

theorem str_append (a b : List UInt8) : str a ++ str b = str (a ++ b) := by
  apply ByteArray.ext
  simp [str]

theorem take_getD {α : Type} (l : List α) (d : α) (k : Nat) (h : k < l.length) : l.take (k + 1) = l.take k ++ [l.getD k d] := by
  rw [List.take_succ_eq_append_getElem h]; simp [h]

theorem getD_mem' {α : Type} {l : List α} {d : α} {k : Nat} (h : k < l.length) : l.getD k d ∈ l := by
  simp [h]

end Go.Proofs.YtblhmeidbjigaaaGreatDoor

/- Words: what an operation from Add to Div gives, in the program's package word and in the reference. -/
set_option linter.unusedSimpArgs false
set_option linter.unusedVariables false
namespace Go.Proofs.YtblhmeidbjigaaaGreatDoor
open Go.RowKit

/-- The word of an operation from Add to Div. -/
def calcW (k x y : Int) : Int :=
  if k = 3 then wrap64 (x + y)
  else if k = 4 then wrap64 (x - y)
  else if k = 5 then wrap64 (x * y)
  else if k = 6 then bits .and .i64 x y
  else if k = 7 then bits .or .i64 x y
  else if k = 8 then bits .xor .i64 x y
  else if k = 9 then (if x < y then 1 else 0)
  else if k = 10 then (if x = y then 1 else 0)
  else wrap64 (x.tdiv y)

theorem ofTruth_any (b : Bool) (w : World) : Calls Tryz.prog 203 #[.bool b] w fun e w' => e = .returned (.int .i64 (if b then 1 else 0)) ∧ w = w' := by
  go_enter Tryz.func203, Tryz.ntmps203
  cases b
  · go_wp2
    go_ret
    exact ⟨by simp, rfl⟩
  · go_wp2
    go_ret
    exact ⟨by simp, rfl⟩

theorem ofConst_any (b c : Int) (w : World) (hb : 0 ≤ b ∧ b < 256) (hc : 0 ≤ c ∧ c < 256) : Calls Tryz.prog 164 #[.int .i64 b, .int .i64 c] w fun e w' => e = .returned (.int .i64 (256 * b + c - 32768)) ∧ w = w' := by
  go_enter Tryz.func164, Tryz.ntmps164
  go_wp2
  go_ret
  exact ⟨by simp, rfl⟩

theorem quotient_any (x y : Int) (hy : y ≠ 0) (w : World) : Calls Tryz.prog 204 #[.int .i64 x, .int .i64 y] w fun e w' => e = .returned (.tuple #[.int .i64 (wrap64 (x.tdiv y)), .bool true]) ∧ w = w' := by
  go_enter Tryz.func204, Tryz.ntmps204
  go_wp2
  go_ret2
  exact ⟨by simp, rfl⟩

theorem quotient_zero (x : Int) (w : World) : Calls Tryz.prog 204 #[.int .i64 x, .int .i64 0] w fun e w' => e = .returned (.tuple #[.int .i64 0, .bool false]) ∧ w = w' := by
  go_enter Tryz.func204, Tryz.ntmps204
  go_wp2
  go_ret2
  exact ⟨by simp, rfl⟩

set_option maxHeartbeats 2000000 in
theorem wordOf_any (k x y : Int) (w : World) (hk : 3 ≤ k ∧ k ≤ 11) (hy : k = 11 → y ≠ 0) : Calls Tryz.prog 193 #[.int .i64 k, .int .i64 x, .int .i64 y] w fun e w' => e = .returned (.tuple #[.int .i64 (calcW k x y), .bool true]) ∧ w = w' := by
  obtain rfl | rfl | rfl | rfl | rfl | rfl | rfl | rfl | rfl : k = 9 ∨ k = 10 ∨ k = 3 ∨ k = 4 ∨ k = 5 ∨ k = 6 ∨ k = 7 ∨ k = 8 ∨ k = 11 := by omega
  · by_cases h : x < y
    all_goals
      go_enter Tryz.func193, Tryz.ntmps193
      go_wp2_with (first | (go_at_call 203; refine (ofTruth_any _ _).mono ?_; rintro e w' ⟨rfl, rfl⟩))
      go_ret2
      exact ⟨by simp [calcW, h], rfl⟩
  · by_cases h : x = y
    all_goals
      go_enter Tryz.func193, Tryz.ntmps193
      go_wp2_with (first | (go_at_call 203; refine (ofTruth_any _ _).mono ?_; rintro e w' ⟨rfl, rfl⟩))
      go_ret2
      exact ⟨by simp [calcW, h], rfl⟩
  all_goals
    go_enter Tryz.func193, Tryz.ntmps193
    go_wp2_with (first | (go_at_call 204; refine (quotient_any _ _ (hy rfl) _).mono ?_; rintro e w' ⟨rfl, rfl⟩))
    go_ret2
    exact ⟨by simp [calcW], rfl⟩

set_option maxHeartbeats 2000000 in
theorem wordOf_zero (x : Int) (w : World) : Calls Tryz.prog 193 #[.int .i64 11, .int .i64 x, .int .i64 0] w fun e w' => e = .returned (.tuple #[.int .i64 0, .bool false]) ∧ w = w' := by
  go_enter Tryz.func193, Tryz.ntmps193
  go_wp2_with (go_at_call 204; refine (quotient_zero _ _).mono ?_; rintro e w' ⟨rfl, rfl⟩)
  go_ret2
  exact ⟨by simp, rfl⟩

end Go.Proofs.YtblhmeidbjigaaaGreatDoor

/- Reading a hint in the codec. -/
set_option linter.unusedSimpArgs false
set_option linter.unusedVariables false
namespace Go.Proofs.YtblhmeidbjigaaaGreatDoor
open Go.RowKit

theorem byteOr_bd (d : Int) (s : ByteArray) (i : Int) (hd : -1 ≤ d ∧ d ≤ 255) : -1 ≤ byteOr d s i ∧ byteOr d s i ≤ 255 := by
  unfold byteOr
  split
  · have := (s[i.toNat]!).toNat_lt; omega
  · exact hd

end Go.Proofs.YtblhmeidbjigaaaGreatDoor

/- Hints that lie in memory of their own, each list for itself. -/
set_option linter.unusedSimpArgs false
set_option linter.unusedVariables false
namespace Go.Proofs.YtblhmeidbjigaaaGreatDoor
open Go.RowKit

section
variable {w w' : World} {base base' : Nat} {e : TypeId} {size : Nat} {v : Value} {n : Nat} {xs : List Value}

/-- What lies in a block that has not turned. -/
theorem owns_same (h : w.ownsRow base e size v n xs) (hb : ∀ g, v.ownBlock = some g → w'.heap[g]? = w.heap[g]?) : w'.ownsRow base e size v n xs := by
  refine ⟨h.1, ?_⟩
  rcases h.2 with h2 | ⟨g, cap, cur, rfl, hg, hh, r⟩
  · exact .inl h2
  · exact .inr ⟨g, cap, cur, rfl, hg, (hb g rfl).trans hh, r⟩

theorem owns_below {B : Nat} (h : w.ownsRow base e size v n xs) (hb : Below B w w') (hB : w.heap.size ≤ B) : w'.ownsRow base e size v n xs :=
  owns_same h fun g hg => hb.block g (Nat.lt_of_lt_of_le (h.lt g hg).2 hB)

/-- Rows of different types lie in different blocks. -/
theorem owns_apart {e' : TypeId} {size' : Nat} {v' : Value} {n' : Nat} {xs' : List Value} (h : w.ownsRow base e size v n xs) (h' : w.ownsRow base' e' size' v' n' xs') (he : e ≠ e') : ∀ g, v.ownBlock = some g → v'.ownBlock ≠ some g := by
  intro g hg hg'
  rcases h.2 with ⟨rfl, _⟩ | ⟨k, cap, cur, rfl, _, hh, _⟩
  · simp [Value.ownBlock] at hg
  rcases h'.2 with ⟨rfl, _⟩ | ⟨k', cap', cur', rfl, _, hh', _⟩
  · simp [Value.ownBlock] at hg'
  simp [Value.ownBlock] at hg hg'
  subst hg; subst hg'
  rw [hh] at hh'
  simp at hh'
  exact he hh'.2

theorem owns_cell (h : w.ownsRow base e size v n xs) {ao : Option Addr} {cap : Nat} (hv : v = .slice ao n cap) {i : Nat} (hi : i < xs.length) :
    ∃ b, ao = some ⟨b, 0, none⟩ ∧ base ≤ b ∧ v.ownBlock = some b ∧ w.cell? ⟨b, i, none⟩ = some xs[i] := by
  rcases h.2 with ⟨h1, h0⟩ | ⟨g, cap', cur, h1, hg, hh, r⟩
  · have := h.1
    simp [h0] at this
    simp [this] at hi
  · subst hv
    simp at h1
    obtain ⟨rfl, rfl⟩ := h1
    refine ⟨g, rfl, hg, rfl, ?_⟩
    have := h.cells (g := g) rfl i xs[i] (by simp)
    rwa [Addr.add_lit, Nat.zero_add] at this

theorem owns_le (h : w.ownsRow base e size v n xs) : n ≤ 9223372036854775807 := by
  rcases h.2 with ⟨h1, h0⟩ | ⟨g, cap', cur, h1, hg, hh, h2, h3, r⟩
  · omega
  · unfold maxLen at h3; omega
end

end Go.Proofs.YtblhmeidbjigaaaGreatDoor

/- Texts of hints: what is read is what was written. -/
set_option linter.unusedSimpArgs false
set_option linter.unusedVariables false
namespace Go.Proofs.YtblhmeidbjigaaaGreatDoor
open Go.RowKit

theorem byt_toNat {n : Int} (h0 : 0 ≤ n) (h1 : n < 256) : ((byt n).toNat : Int) = n := by
  unfold byt
  rw [UInt8.toNat_ofNat']
  omega

theorem byt_of (b : UInt8) : byt (b.toNat : Int) = b := by
  unfold byt
  have := b.toNat_lt
  apply UInt8.toNat_inj.1
  rw [UInt8.toNat_ofNat']
  omega

theorem str_size (l : List UInt8) : (str l).size = l.length := by simp [str, ByteArray.size]

theorem byteOr_str {d : Int} {l : List UInt8} {i : Nat} {b : UInt8} (h : l[i]? = some b) : byteOr d (str l) i = b.toNat := by
  have hi : i < l.length := (List.getElem?_eq_some_iff.1 h).1
  have e : l[i] = b := (List.getElem?_eq_some_iff.1 h).2
  unfold byteOr
  rw [if_pos (by rw [str_size]; omega)]
  have : (str l)[(i : Int).toNat]! = b := by
    rw [Int.toNat_natCast, getElem!_pos _ _ (by rw [str_size]; exact hi), ← e]
    rfl
  rw [this]

theorem str_of (s : ByteArray) : s = str s.data.toList := by simp [str]

theorem get_mid {l a b c : List UInt8} {o i : Nat} {x : UInt8} (hl : l = a ++ b ++ c) (ho : a.length = o) (h : b[i]? = some x) : l[o + i]? = some x := by
  have hi : i < b.length := (List.getElem?_eq_some_iff.1 h).1
  subst hl; subst ho
  rw [List.append_assoc, List.getElem?_append_right (by omega), Nat.add_sub_cancel_left, List.getElem?_append_left hi, h]

/-! ### Back: what was read, written again -/

theorem byteOr_in {d : Int} {s : ByteArray} {i : Nat} (hi : i < s.size) : byteOr d s i = (s.data.toList[i]'(by simpa using hi)).toNat := by
  have h : s.data.toList[i]? = some (s.data.toList[i]'(by simpa using hi)) := List.getElem?_eq_getElem _
  have := byteOr_str (d := d) h
  rwa [← str_of] at this

/-- A stretch of a text. -/
def seg (s : ByteArray) (i n : Nat) : List UInt8 := (s.data.toList.drop i).take n

theorem seg_two {s : ByteArray} {i : Nat} (h : i + 1 < s.size) : seg s i 2 = [byt (byteOr (-1) s i), byt (byteOr (-1) s ((i : Int) + 1))] := by
  have hl : s.data.toList.length = s.size := Array.length_toList
  rw [show (i : Int) + 1 = ((i + 1 : Nat) : Int) by omega, byteOr_in (show i < s.size by omega), byteOr_in h, byt_of, byt_of]
  unfold seg
  rw [List.drop_eq_getElem_cons (by omega), List.drop_eq_getElem_cons (by omega)]
  rfl

theorem seg_add (s : ByteArray) (i n m : Nat) : seg s i (n + m) = seg s i n ++ seg s (i + n) m := by
  unfold seg
  rw [List.take_add, List.drop_drop]

/-! ### The two contracts, in the document's words -/

end Go.Proofs.YtblhmeidbjigaaaGreatDoor

/- Appending to a list of one's own: what was there stays. -/
set_option linter.unusedSimpArgs false
set_option linter.unusedVariables false
namespace Go.Proofs.YtblhmeidbjigaaaGreatDoor
open Go.RowKit

section
variable {P : Program} (w : World)

end

/-- A row that is the beginning of another one in its block. -/
theorem owns_pre {w w' : World} {B B' : Nat} {e : TypeId} {sz : Nat} {v lv : Value} {n m : Nat} {xs ys t : List Value} (hsz : 0 < sz) (h : w.ownsRow B e sz v n xs) (hl : w.ownsRow B' e sz lv m ys) {g : Nat} (hg : v.ownBlock = some g) (hg' : lv.ownBlock = some g)
    (hl' : w'.ownsRow B' e sz lv m ys) (ht : ys = xs ++ t) : w'.ownsRow B e sz v n xs := by
  refine ⟨h.1, ?_⟩
  rcases h.2 with ⟨rfl, _⟩ | ⟨k, cap, cur, rfl, hk, hh, h1, h2, h3, h4⟩
  · simp [Value.ownBlock] at hg
  rcases hl.2 with ⟨rfl, _⟩ | ⟨k', cap', cur', rfl, hk', hh', g1, g2, g3, g4⟩
  · simp [Value.ownBlock] at hg'
  simp only [Value.ownBlock, Option.some.injEq] at hg hg'
  subst hg; subst hg'
  rw [hh] at hh'
  simp only [Option.some.injEq, Obj.cells.injEq, and_true] at hh'
  have hcur : cur = cur' := hh'
  subst hcur
  have hcap : cap = cap' := by
    have : cap * sz = cap' * sz := by rw [← h3, ← g3]
    exact Nat.eq_of_mul_eq_mul_right hsz this
  subst hcap
  rcases hl'.2 with ⟨hx, _⟩ | ⟨k2, cap2, cur2, hx, hk2, hh2, f1, f2, f3, f4⟩
  · simp at hx
  simp only [Value.slice.injEq, Option.some.injEq, Addr.mk.injEq, and_true, true_and] at hx
  obtain ⟨rfl, rfl⟩ := hx
  refine .inr ⟨_, _, cur2, rfl, hk, hh2, h1, h2, f3, ?_⟩
  have hnm : n * sz ≤ m * sz := by rw [← h.1, ← hl.1, ht]; simp
  have e1 : cur2.toList.take (n * sz) = (cur2.toList.take (m * sz)).take (n * sz) := by rw [List.take_take, Nat.min_eq_left hnm]
  rw [e1, f4, ht, ← h.1, List.take_left]

theorem owns_frozen {w : World} {B : Nat} {e : TypeId} {sz : Nat} {v : Value} {n : Nat} {xs : List Value} (h : w.ownsRow B e sz v n xs) {g : Nat} (hg : v.ownBlock = some g) (o : Nat) : w.frozen? ⟨g, o, none⟩ = false := by
  rcases h.2 with ⟨rfl, _⟩ | ⟨k, cap, cur, rfl, hk, hh, _⟩
  · simp [Value.ownBlock] at hg
  · simp only [Value.ownBlock, Option.some.injEq] at hg
    subst hg
    simp [World.frozen?, hh]

end Go.Proofs.YtblhmeidbjigaaaGreatDoor

/- Storing into a hint of one's own. -/
set_option linter.unusedSimpArgs false
set_option linter.unusedVariables false
namespace Go.Proofs.YtblhmeidbjigaaaGreatDoor
open Go.RowKit

/-- What lay there has not turned, but for the blocks of S. -/
structure Keep (S : Nat → Prop) (w w' : World) : Prop where
  os : w'.os = w.os
  tape : w'.tape = w.tape
  output : w'.output = w.output
  size : w.heap.size ≤ w'.heap.size
  block : ∀ k, k < w.heap.size → ¬ S k → w'.heap[k]? = w.heap[k]?

theorem Keep.refl (S : Nat → Prop) (w : World) : Keep S w w := ⟨rfl, rfl, rfl, Nat.le_refl _, fun _ _ _ => rfl⟩

theorem Keep.step {S : Nat → Prop} {w a b : World} (h : Keep S w a) (hos : b.os = a.os) (ht : b.tape = a.tape) (ho : b.output = a.output) (hs : a.heap.size ≤ b.heap.size) (hb : ∀ k, k < w.heap.size → ¬ S k → b.heap[k]? = a.heap[k]?) : Keep S w b :=
  ⟨hos.trans h.os, ht.trans h.tape, ho.trans h.output, Nat.le_trans h.size hs, fun k hk hn => (hb k hk hn).trans (h.block k hk hn)⟩

theorem Keep.alloc {S : Nat → Prop} {w a : World} (h : Keep S w a) (o : Obj) : Keep S w (a.alloc o) :=
  h.step rfl rfl rfl (by simp) fun k hk _ => Below.heap_alloc _ _ _ (Nat.lt_of_lt_of_le hk h.size)

theorem Keep.setCell {S : Nat → Prop} {w a : World} (h : Keep S w a) {p : Addr} (hp : S p.block ∨ w.heap.size ≤ p.block) (u : Value) : Keep S w (a.setCell p u) :=
  h.step rfl rfl rfl (by simp) fun k hk hn => Below.heap_setCell _ _ _ _ (fun e => by subst e; rcases hp with hp | hp; exact hn hp; omega)

theorem Keep.grown {S : Nat → Prop} {w a b : World} {row : Option Nat} (h : Keep S w a) (hg : a.grownBy b row) (hr : ∀ g, row = some g → S g ∨ w.heap.size ≤ g) : Keep S w b :=
  h.step hg.os hg.tape hg.output hg.size fun k hk hn => hg.block k (Nat.lt_of_lt_of_le hk h.size) (fun e => by rcases hr k e.symm with hp | hp; exact hn hp; omega)

theorem Keep.below {S : Nat → Prop} {w a b : World} (h : Keep S w a) {B : Nat} (hb : Below B a b) (hB : w.heap.size ≤ B) : Keep S w b :=
  h.step hb.os hb.tape hb.output hb.size fun k hk _ => hb.block k (by omega)

theorem Keep.toBelow {S : Nat → Prop} {w a : World} (h : Keep S w a) {B : Nat} (hB : B ≤ w.heap.size) (hS : ∀ k, S k → B ≤ k) : Below B w a :=
  ⟨h.os, h.tape, h.output, h.size, fun k hk => h.block k (by omega) (fun hk' => by have := hS k hk'; omega)⟩

theorem Keep.cell {S : Nat → Prop} {w a : World} (h : Keep S w a) {b o : Nat} (hb : ¬ S b) {u : Value} (hc : w.cell? ⟨b, o, none⟩ = some u) : a.cell? ⟨b, o, none⟩ = some u :=
  (World.cell?_of_block (w := w) (h.block b (World.block_lt_of_cell? w _ hc) hb)).trans hc

theorem owns_set {w : World} {B : Nat} {e : TypeId} {sz : Nat} {v : Value} {n : Nat} {xs : List Value} (h : w.ownsRow B e sz v n xs) {g i : Nat} (hg : v.ownBlock = some g) (hi : i < xs.length) (u : Value) :
    (w.setCell ⟨g, i, none⟩ u).ownsRow B e sz v n (xs.set i u) := by
  refine ⟨by rw [List.length_set]; exact h.1, ?_⟩
  rcases h.2 with ⟨rfl, _⟩ | ⟨k, cap, cur, rfl, hk, hh, h1, h2, h3, h4⟩
  · simp [Value.ownBlock] at hg
  simp only [Value.ownBlock, Option.some.injEq] at hg
  subst hg
  refine .inr ⟨k, cap, cur.setIfInBounds i u, rfl, hk, heap_setCell_same w k i cur e u hh, h1, h2, by simpa using h3, ?_⟩
  rw [Array.toList_setIfInBounds, List.take_set, h4]

theorem owns_unset {w : World} {B : Nat} {e : TypeId} {sz : Nat} {v : Value} {n : Nat} {xs : List Value} (h : w.ownsRow B e sz v n xs) {g i : Nat} (hg : v.ownBlock ≠ some g) (u : Value) :
    (w.setCell ⟨g, i, none⟩ u).ownsRow B e sz v n xs :=
  owns_same h fun k hk => Below.heap_setCell _ _ _ _ (fun e => hg (by rw [hk, e]))

end Go.Proofs.YtblhmeidbjigaaaGreatDoor

/- Rows of memory as lists: made, copied into, written. -/
set_option linter.unusedSimpArgs false
set_option linter.unusedVariables false
namespace Go.Proofs.YtblhmeidbjigaaaGreatDoor
open Go.RowKit

/-- Block g is a row of cells xs of type e, none frozen. -/
def Row (w : World) (g : Nat) (e : TypeId) (xs : List Value) : Prop := w.heap[g]? = some (.cells xs.toArray e (0, 0))

theorem Row.cell {w : World} {g : Nat} {e : TypeId} {xs : List Value} (h : Row w g e xs) {i : Nat} {u : Value} (hi : xs[i]? = some u) : w.cell? ⟨g, i, none⟩ = some u := by
  unfold Row at h
  simp [World.cell?, h, hi]

theorem Row.frozen {w : World} {g : Nat} {e : TypeId} {xs : List Value} (h : Row w g e xs) (i : Nat) : w.frozen? ⟨g, i, none⟩ = false := by
  unfold Row at h
  simp [World.frozen?, h]

theorem Row.lt {w : World} {g : Nat} {e : TypeId} {xs : List Value} (h : Row w g e xs) : g < w.heap.size := (Array.getElem?_eq_some_iff.1 h).1

theorem Row.same {w w' : World} {g : Nat} {e : TypeId} {xs : List Value} (h : Row w g e xs) (hs : w'.heap[g]? = w.heap[g]?) : Row w' g e xs := hs.trans h

theorem Row.below {w w' : World} {g B : Nat} {e : TypeId} {xs : List Value} (h : Row w g e xs) (hb : Below B w w') (hg : g < B) : Row w' g e xs := h.same (hb.block g hg)

theorem Row.keep {w w' : World} {g : Nat} {e : TypeId} {xs : List Value} (h : Row w g e xs) (hb : Below w.heap.size w w') : Row w' g e xs := h.below hb h.lt

theorem Row.alloc {w : World} {g : Nat} {e : TypeId} {xs : List Value} (h : Row w g e xs) (o : Obj) : Row (w.alloc o) g e xs := h.same (Below.heap_alloc w o g h.lt)

theorem Row.set {w : World} {g : Nat} {e : TypeId} {xs : List Value} (h : Row w g e xs) (i : Nat) (u : Value) : Row (w.setCell ⟨g, i, none⟩ u) g e (xs.set i u) := by
  have := heap_setCell_same w g i xs.toArray e u h
  unfold Row
  rw [this]
  simp

theorem Row.unset {w : World} {g : Nat} {e : TypeId} {xs : List Value} (h : Row w g e xs) {a : Addr} (ha : g ≠ a.block) (u : Value) : Row (w.setCell a u) g e xs := h.same (Below.heap_setCell _ _ _ _ ha)

section
variable {P : Program} (w : World)

end

end Go.Proofs.YtblhmeidbjigaaaGreatDoor

/- Programs as plain data; how they lie in memory. -/
set_option linter.unusedSimpArgs false
set_option linter.unusedVariables false
namespace Go.Proofs.YtblhmeidbjigaaaGreatDoor
open Go.RowKit

structure OpD where
  kind : Int
  a : Int
  b : Int
  c : Int

structure EndD where
  kind : Int
  r : Int
  x : Int
  y : Int

structure BlockD where
  ops : List OpD
  fin : EndD

structure ProgD where
  args : Int
  regs : Int
  data : Int
  slots : Int
  blocks : List BlockD

def oz : OpD := ⟨0, 0, 0, 0⟩
def ez : EndD := ⟨0, 0, 0, 0⟩
def bz : BlockD := ⟨[], ez⟩

def okind (l : List OpD) (k : Nat) : Int := (l.getD k oz).kind
def oa (l : List OpD) (k : Nat) : Int := (l.getD k oz).a
def ob (l : List OpD) (k : Nat) : Int := (l.getD k oz).b
def oc (l : List OpD) (k : Nat) : Int := (l.getD k oz).c
def bops (l : List BlockD) (k : Nat) : List OpD := (l.getD k bz).ops
def bfin (l : List BlockD) (k : Nat) : EndD := (l.getD k bz).fin
def bek (l : List BlockD) (k : Nat) : Int := (bfin l k).kind
def ber (l : List BlockD) (k : Nat) : Int := (bfin l k).r
def bex (l : List BlockD) (k : Nat) : Int := (bfin l k).x
def bey (l : List BlockD) (k : Nat) : Int := (bfin l k).y

/-! ### Well made -/

def opGood (regs slots : Int) (o : OpD) : Bool :=
  if o.kind = 1 then below o.a regs && below o.b 256 && below o.c 256
  else if 3 ≤ o.kind ∧ o.kind ≤ 11 then below o.a regs && below o.b regs && below o.c regs
  else if o.kind = 2 ∨ o.kind = 12 ∨ o.kind = 13 then below o.a regs && below o.b regs && decide (o.c = 0)
  else if o.kind = 14 then below o.a slots && below o.b regs && decide (o.c = 0)
  else if o.kind = 15 then below o.a regs && below o.b slots && decide (o.c = 0)
  else false

def endGood (regs n : Int) (e : EndD) : Bool :=
  if e.kind = 1 then decide (e.r = 0) && below e.x n && decide (e.y = 0)
  else if e.kind = 2 then below e.r regs && below e.x n && below e.y n
  else if e.kind = 3 then below e.r regs && decide (e.x = 0) && decide (e.y = 0)
  else false

def opsGood (regs slots : Int) (l : List OpD) : Bool := l.all (opGood regs slots)

def blockGood (regs slots n : Int) (b : BlockD) : Bool := decide (b.ops.length ≤ 12) && opsGood regs slots b.ops && endGood regs n b.fin

def blocksGood (regs slots n : Int) (l : List BlockD) : Bool := l.all (blockGood regs slots n)

def progGood (p : ProgD) : Bool :=
  decide (1 ≤ p.regs ∧ p.regs ≤ 8) && decide (0 ≤ p.args ∧ p.args ≤ p.regs) && decide (0 ≤ p.data ∧ p.data ≤ 8) && decide (0 ≤ p.slots ∧ p.slots ≤ 8) && decide (1 ≤ p.blocks.length ∧ p.blocks.length ≤ 6) &&
    blocksGood p.regs p.slots p.blocks.length p.blocks

def ogFrom (regs slots : Int) (l : List OpD) (k : Nat) : Bool := opsGood regs slots (l.drop k)
def bgFrom (regs slots n : Int) (l : List BlockD) (k : Nat) : Bool := blocksGood regs slots n (l.drop k)

theorem ogFrom_end {regs slots : Int} {l : List OpD} {k : Nat} (h : l.length ≤ k) : ogFrom regs slots l k = true := by
  unfold ogFrom; rw [List.drop_of_length_le h]; rfl
theorem ogFrom_step {regs slots : Int} {l : List OpD} {k : Nat} (h : k < l.length) : ogFrom regs slots l k = (opGood regs slots ⟨okind l k, oa l k, ob l k, oc l k⟩ && ogFrom regs slots l (k + 1)) := by
  unfold ogFrom; rw [drop_getD l oz k h]; rfl
theorem bgFrom_end {regs slots n : Int} {l : List BlockD} {k : Nat} (h : l.length ≤ k) : bgFrom regs slots n l k = true := by
  unfold bgFrom; rw [List.drop_of_length_le h]; rfl
theorem bgFrom_step {regs slots n : Int} {l : List BlockD} {k : Nat} (h : k < l.length) : bgFrom regs slots n l k = (blockGood regs slots n ⟨bops l k, ⟨bek l k, ber l k, bex l k, bey l k⟩⟩ && bgFrom regs slots n l (k + 1)) := by
  unfold bgFrom; rw [drop_getD l bz k h]; rfl

/-! ### In memory -/

def RdOps (w : World) (v : Value) (l : List OpD) : Prop :=
  ∃ ao cap, v = .slice ao l.length cap ∧ l.length ≤ 9223372036854775807 ∧ ∀ i, i < l.length → ∃ b off, ao = some ⟨b, off, none⟩ ∧
    w.cell? ⟨b, off + i * 4, none⟩ = some (.int .i64 (okind l i)) ∧ w.cell? ⟨b, off + i * 4 + 1, none⟩ = some (.int .i64 (oa l i)) ∧ w.cell? ⟨b, off + i * 4 + 2, none⟩ = some (.int .i64 (ob l i)) ∧ w.cell? ⟨b, off + i * 4 + 3, none⟩ = some (.int .i64 (oc l i))

def RdBlocks (w : World) (v : Value) (l : List BlockD) : Prop :=
  ∃ ao cap, v = .slice ao l.length cap ∧ l.length ≤ 9223372036854775807 ∧ ∀ i, i < l.length → ∃ b off sv, ao = some ⟨b, off, none⟩ ∧
    w.cell? ⟨b, off + i * 5, none⟩ = some sv ∧ w.cell? ⟨b, off + i * 5 + 1, none⟩ = some (.int .i64 (bek l i)) ∧ w.cell? ⟨b, off + i * 5 + 2, none⟩ = some (.int .i64 (ber l i)) ∧ w.cell? ⟨b, off + i * 5 + 3, none⟩ = some (.int .i64 (bex l i)) ∧ w.cell? ⟨b, off + i * 5 + 4, none⟩ = some (.int .i64 (bey l i)) ∧
    RdOps w sv (bops l i)

theorem RdOps.keep {w w' : World} {v : Value} {l : List OpD} (h : RdOps w v l) (hb : Below w.heap.size w w') : RdOps w' v l := by
  obtain ⟨ao, cap, rfl, hl, hc⟩ := h
  exact ⟨ao, cap, rfl, hl, fun i hi => let ⟨b, off, e, h1, h2, h3, h4⟩ := hc i hi; ⟨b, off, e, cell_keep hb h1, cell_keep hb h2, cell_keep hb h3, cell_keep hb h4⟩⟩

theorem RdBlocks.keep {w w' : World} {v : Value} {l : List BlockD} (h : RdBlocks w v l) (hb : Below w.heap.size w w') : RdBlocks w' v l := by
  obtain ⟨ao, cap, rfl, hl, hc⟩ := h
  exact ⟨ao, cap, rfl, hl, fun i hi => let ⟨b, off, sv, e, h1, h2, h3, h4, h5, h6⟩ := hc i hi; ⟨b, off, sv, e, cell_keep hb h1, cell_keep hb h2, cell_keep hb h3, cell_keep hb h4, cell_keep hb h5, h6.keep hb⟩⟩

/-- A program as a value. -/
def progV (p : ProgD) (v : Value) : Value := .agg #[.int .i64 p.args, .int .i64 p.regs, .int .i64 p.data, .int .i64 p.slots, v]

/-! ### Texts -/

def opText (o : OpD) : List UInt8 := [byt o.kind, byt o.a, byt o.b, byt o.c]
def opsText (l : List OpD) : List UInt8 := l.flatMap opText
def endText (e : EndD) : List UInt8 := [byt e.kind, byt e.r, byt e.x, byt e.y]
def blockText (b : BlockD) : List UInt8 := [byt b.ops.length] ++ opsText b.ops ++ endText b.fin
def headText (p : ProgD) : List UInt8 := [84, 87, byt p.args, byt p.regs, byt p.data, byt p.slots, byt p.blocks.length]
def progText (p : ProgD) : List UInt8 := headText p ++ p.blocks.flatMap blockText

theorem opsText_length (l : List OpD) : (opsText l).length = 4 * l.length := by
  induction l with
  | nil => rfl
  | cons p r ih => simp only [opsText, List.flatMap_cons, List.length_append, List.length_cons, opText, List.length_nil] at *; omega

theorem blockText_length (b : BlockD) : (blockText b).length = 5 + 4 * b.ops.length := by
  simp [blockText, opsText_length, endText]; omega

/-- A block's text as far as its first k operations. -/
def blockTo (l : List OpD) (k : Nat) : ByteArray := str ([byt l.length] ++ opsText (l.take k))

theorem blockTo_step {l : List OpD} {k : Nat} (h : k < l.length) : blockTo l (k + 1) = blockTo l k ++ ⟨#[byt (okind l k), byt (oa l k), byt (ob l k), byt (oc l k)]⟩ := by
  show _ = str _ ++ str [_, _, _, _]
  rw [str_append]
  simp [blockTo, opsText, take_getD l oz k h, okind, oa, ob, oc, opText]

theorem blockTo_end {l : List OpD} {k : Nat} (e : EndD) (h : l.length ≤ k) : blockTo l k ++ ⟨#[byt e.kind, byt e.r, byt e.x, byt e.y]⟩ = str (blockText ⟨l, e⟩) := by
  show str _ ++ str [_, _, _, _] = _
  rw [str_append]
  simp [blockText, endText, List.take_of_length_le h]

theorem blockTo_size (l : List OpD) (k : Nat) (h : k ≤ l.length) : (blockTo l k).size = 1 + 4 * k := by
  simp [blockTo, str, ByteArray.size, opsText_length, List.length_take, Nat.min_eq_left h]
  omega

/-- A program's text as far as its first k blocks. -/
def progTo (p : ProgD) (k : Nat) : ByteArray := str (headText p ++ (p.blocks.take k).flatMap blockText)

theorem progTo_step {p : ProgD} {k : Nat} (h : k < p.blocks.length) : progTo p (k + 1) = progTo p k ++ str (blockText ⟨bops p.blocks k, ⟨bek p.blocks k, ber p.blocks k, bex p.blocks k, bey p.blocks k⟩⟩) := by
  unfold progTo
  rw [str_append, take_getD p.blocks bz k h, List.flatMap_append, List.append_assoc]
  simp [bops, bek, ber, bex, bey, bfin]

theorem progTo_end {p : ProgD} {k : Nat} (h : p.blocks.length ≤ k) : progTo p k = str (progText p) := by
  simp [progTo, progText, List.take_of_length_le h]

theorem progGood_len {p : ProgD} (hg : progGood p = true) : 1 ≤ p.blocks.length ∧ p.blocks.length ≤ 6 := by
  simp [progGood] at hg; omega

theorem progGood_block {p : ProgD} (hg : progGood p = true) (x : BlockD) (hx : x ∈ p.blocks) : blockGood p.regs p.slots p.blocks.length x = true := by
  simp [progGood, blocksGood] at hg; exact hg.2 x hx

theorem progGood_ops {p : ProgD} (hg : progGood p = true) {k : Nat} (hk : k < p.blocks.length) : (bops p.blocks k).length ≤ 12 := by
  have := progGood_block hg (p.blocks.getD k bz) (getD_mem' hk)
  simp [blockGood] at this
  exact this.1.1

theorem bflat_le {l : List BlockD} (h : ∀ x ∈ l, x.ops.length ≤ 12) : (l.flatMap blockText).length ≤ 53 * l.length := by
  induction l with
  | nil => simp
  | cons x r ih =>
    have h1 := h x (by simp)
    have h2 := ih (fun y hy => h y (by simp [hy]))
    simp only [List.flatMap_cons, List.length_append, blockText_length, List.length_cons]
    omega

theorem progTo_size {p : ProgD} (hg : progGood p = true) (k : Nat) : (progTo p k).size ≤ 330 := by
  have h1 := progGood_len hg
  have h2 := bflat_le (l := p.blocks.take k) (fun x hx => by
    have := progGood_block hg x (List.mem_of_mem_take hx)
    simp [blockGood] at this
    exact this.1.1)
  have h3 : (p.blocks.take k).length ≤ 6 := Nat.le_trans (List.length_take_le' _ _) h1.2
  have e : (progTo p k).size = 7 + ((p.blocks.take k).flatMap blockText).length := by
    simp [progTo, str, ByteArray.size, headText]; omega
  omega

end Go.Proofs.YtblhmeidbjigaaaGreatDoor

/- Terms as plain data: how they are made (P8, P9), pure. -/
set_option linter.unusedSimpArgs false
set_option linter.unusedVariables false
noncomputable section
namespace Go.Proofs.YtblhmeidbjigaaaGreatDoor
open Go.RowKit Classical

/-- A term: a number (100), a letter with its number (101, 102), the cells (103); or an operation of its parts (3 to 12; 13: three parts). -/
inductive TD where
  | leaf (k n : Int)
  | two (k : Int) (a b : TD)
  | three (k : Int) (a b c : TD)

def TD.kind : TD → Int
  | .leaf k _ => k
  | .two k _ _ => k
  | .three k _ _ _ => k

def TD.size : TD → Nat
  | .leaf _ _ => 1
  | .two _ a b => 1 + a.size + b.size
  | .three _ a b c => 1 + a.size + b.size + c.size

def tnum (n : Int) : TD := .leaf 100 n

/-- The number that a term is. -/
def TD.isNum : TD → Option Int
  | .leaf k n => if k = 100 then some n else none
  | _ => none

/-- A sum of something and a number. -/
def TD.isPlus : TD → Option (TD × Int)
  | .two k a b => if k = 3 then b.isNum.map (a, ·) else none
  | _ => none

/-- What is made of '+', u and the number k. -/
def addN : TD → Int → TD
  | .leaf q n, k => if q = 100 then tnum (wrap64 (n + k)) else if k = 0 then .leaf q n else .two 3 (.leaf q n) (tnum k)
  | .two q a b, k =>
    if k = 0 then .two q a b
    else match q, b.isNum with
      | 3, some m => addN a (wrap64 (m + k))
      | _, _ => .two 3 (.two q a b) (tnum k)
  | .three q a b c, k => if k = 0 then .three q a b c else .two 3 (.three q a b c) (tnum k)

/-- P9 (3), the rows with a number v. -/
def besideT (kind : Int) (u : TD) (n : Int) : Option TD :=
  if kind = 4 then some (addN u (wrap64 (0 - n)))
  else if kind = 3 then (if n = 0 then some u else u.isPlus.map fun p => addN p.1 (wrap64 (p.2 + n)))
  else if kind = 5 then (if n = 0 then some (tnum 0) else if n = 1 then some u else none)
  else if kind = 6 then (if n = 0 then some (tnum 0) else if n = -1 then some u else none)
  else if kind = 7 then (if n = 0 then some u else if n = -1 then some (tnum (-1)) else none)
  else if kind = 8 then (if n = 0 then some u else none)
  else if kind = 11 then (if n = 1 then some u else none)
  else none

/-- What a word is plus a number. -/
def thingT (u : TD) : Option TD × Int :=
  match u.isNum with
  | some n => (none, n)
  | none => match u.isPlus with
    | some (a, n) => (some a, n)
    | none => (some u, 0)

def apartT (u v : TD) : Bool := decide ((thingT u).1 = (thingT v).1 ∧ (thingT u).2 ≠ (thingT v).2)

def turnsT (kind : Int) : Bool := decide (kind = 3 ∨ kind = 5 ∨ kind = 6 ∨ kind = 7 ∨ kind = 8 ∨ kind = 10)

/-- P9 (3). -/
def rowT (kind : Int) (u v : TD) : TD :=
  match v.isNum.bind (besideT kind u) with
  | some t => t
  | none =>
    if u = v ∧ (kind = 4 ∨ kind = 8 ∨ kind = 9) then tnum 0
    else if u = v ∧ (kind = 6 ∨ kind = 7) then u
    else if u = v ∧ kind = 10 then tnum 1
    else if kind = 10 ∧ apartT u v = true then tnum 0
    else .two kind u v

/-- P9: read of cells. -/
def readT : TD → TD → TD
  | .three 13 c a v, u => if a = u then v else if apartT a u = true then readT c u else .two 12 (.three 13 c a v) u
  | m, u => .two 12 m u

/-- P9, written (2). -/
def leftT : TD → TD → TD
  | .three 13 c a v, u => if a = u then c else if apartT a u = true then .three 13 (leftT c u) a v else .three 13 c a v
  | m, _ => m

/-- P9, written (3). -/
def laidT : TD → TD → TD → TD
  | .three 13 c a w, u, v =>
    match u.isNum, a.isNum with
    | some n, some k => if k > n then .three 13 (laidT c u v) a w else .three 13 (.three 13 c a w) u v
    | _, _ => .three 13 (.three 13 c a w) u v
  | m, u, v => .three 13 m u v

def writtenT (m u v : TD) : TD := if readT m u = v then m else laidT (leftT m u) u v

end Go.Proofs.YtblhmeidbjigaaaGreatDoor

/- What a block computes, as plain data: texts of terms (P8), places behind operations (P10), marks (P11), pure. -/
set_option linter.unusedSimpArgs false
set_option linter.unusedVariables false
noncomputable section
namespace Go.Proofs.YtblhmeidbjigaaaGreatDoor
open Go.RowKit Classical

def signT (k : Int) : UInt8 :=
  if k = 3 then 43 else if k = 4 then 45 else if k = 5 then 42 else if k = 6 then 38 else if k = 7 then 124 else if k = 8 then 94 else if k = 9 then 60 else if k = 10 then 61 else if k = 11 then 47 else if k = 12 then 64 else 33

/-- P8: a term's text. -/
def showT : TD → List UInt8
  | .leaf k n => if k = 100 then Lib.itoa n else if k = 101 then 114 :: Lib.itoa n else if k = 102 then 120 :: Lib.itoa n else [109]
  | .two k a b => 40 :: signT k :: 32 :: (showT a ++ 32 :: (showT b ++ [41]))
  | .three k a b c => 40 :: signT k :: 32 :: (showT a ++ 32 :: (showT b ++ 32 :: (showT c ++ [41])))

/-- P9, of a sign and words. -/
def madeT (kind : Int) (u v : TD) : TD :=
  match u.isNum, v.isNum with
  | some a, some b => if kind = 11 ∧ b = 0 then rowT kind u v else tnum (calcW kind a b)
  | some _, none => if turnsT kind then rowT kind v u else rowT kind u v
  | none, some _ => rowT kind u v
  | none, none => if turnsT kind ∧ showT v < showT u then rowT kind v u else rowT kind u v

/-- What a place holds at the block's begin; names: by place a register of the source, or below 0. -/
def firstT (names : List Int) (place : Int) : TD :=
  if (names.length : Int) ≤ place then .leaf 103 0 else if names.getD place.toNat 0 < 0 then .leaf 102 place else .leaf 101 (names.getD place.toNat 0)

/-- The place that an operation writes. -/
def writesT (regs slots : Int) (o : OpD) : Int := if o.kind = 13 then regs + slots else if o.kind = 14 then regs + o.a else o.a

/-- P10: what a place holds behind the first k operations. -/
def behindT (regs slots : Int) (names : List Int) (ops : List OpD) : Nat → Int → TD
  | 0, place => firstT names place
  | k + 1, place =>
    let o := ops.getD k oz
    let was := behindT regs slots names ops k
    if writesT regs slots o ≠ place then was place
    else if o.kind = 1 then tnum (256 * o.b + o.c - 32768)
    else if o.kind = 2 ∨ o.kind = 14 then was o.b
    else if o.kind = 15 then was (regs + o.b)
    else if o.kind = 12 then readT (was (regs + slots)) (was o.b)
    else if o.kind = 13 then writtenT (was (regs + slots)) (was o.a) (was o.b)
    else madeT o.kind (was o.b) (was o.c)

/-- P10: is a block big? -/
def bigT (regs slots : Int) (names : List Int) (ops : List OpD) : Bool :=
  (List.range ops.length).any fun k => decide (3 ≤ okind ops k ∧ okind ops k ≤ 13 ∧ 4095 < (behindT regs slots names ops (k + 1) (writesT regs slots (ops.getD k oz))).size)

def plainNames (regs slots : Int) : List Int := (List.range (regs + slots).toNat).map fun (i : Nat) => if (i : Int) < regs then (i : Int) else -1

/-- P11: the mark of the operation behind the first k ones; []: it has none, or it is left out for its numbers. -/
def markT (regs slots data : Int) (names : List Int) (ops : List OpD) (k : Nat) : List UInt8 :=
  let o := ops.getD k oz
  let was := behindT regs slots names ops k
  if o.kind = 11 then
    match (was o.b).isNum, (was o.c).isNum with
    | some _, some y => if y ≠ 0 then [] else 47 :: 32 :: (showT (was o.b) ++ 32 :: showT (was o.c))
    | _, _ => 47 :: 32 :: (showT (was o.b) ++ 32 :: showT (was o.c))
  else if o.kind = 12 ∨ o.kind = 13 then
    let u := was (if o.kind = 12 then o.b else o.a)
    match u.isNum with
    | some n => if 0 ≤ n ∧ n < data then [] else 64 :: 32 :: showT u
    | none => 64 :: 32 :: showT u
  else []

/-- P11: the marks of the first k operations. -/
def marksT (regs slots data : Int) (names : List Int) (ops : List OpD) : Nat → List (List UInt8)
  | 0 => []
  | k + 1 =>
    let l := marksT regs slots data names ops k
    let s := markT regs slots data names ops k
    if s ≠ [] ∧ s ∉ l then l ++ [s] else l

end Go.Proofs.YtblhmeidbjigaaaGreatDoor

/- What is made of '+' and a number; pure. -/
set_option linter.unusedSimpArgs false
set_option linter.unusedVariables false
noncomputable section
namespace Go.Proofs.YtblhmeidbjigaaaGreatDoor
open Go.RowKit Classical

theorem num_isNum (k : Int) : (tnum k).isNum = some k := by simp [tnum, TD.isNum]

theorem row_add (u : TD) (k : Int) : rowT 3 u (tnum k) = if k = 0 then u else match u.isPlus with | some p => addN p.1 (wrap64 (p.2 + k)) | none => .two 3 u (tnum k) := by
  unfold rowT
  rw [num_isNum]
  simp only [Option.bind_some, besideT]
  by_cases hk : k = 0
  · simp [hk]
  · cases hp : u.isPlus with
    | none => simp [hk]
    | some p => simp [hk]

theorem made_add (u : TD) (k : Int) : madeT 3 u (tnum k) = addN u k := by
  cases u with
  | leaf q n =>
    by_cases hq : q = 100
    · subst hq
      have h : (TD.leaf 100 n).isNum = some n := num_isNum n
      simp [madeT, h, num_isNum, addN, calcW]
    · have h : (TD.leaf q n).isNum = none := by simp [TD.isNum, hq]
      have hp : (TD.leaf q n).isPlus = none := rfl
      simp only [madeT, h, num_isNum, row_add, hp, addN, if_neg hq]
  | two q a b =>
    have h : (TD.two q a b).isNum = none := rfl
    simp only [madeT, h, num_isNum, row_add, addN]
    by_cases hk : k = 0
    · simp [hk]
    · simp only [if_neg hk]
      by_cases hq : q = 3
      · subst hq
        cases hb : b.isNum with
        | none => simp [TD.isPlus, hb]
        | some m => simp [TD.isPlus, hb]
      · simp only [TD.isPlus, if_neg hq]
        split
        · exact absurd rfl hq
        · rfl
  | three q a b c =>
    have h : (TD.three q a b c).isNum = none := rfl
    have hp : (TD.three q a b c).isPlus = none := rfl
    simp only [madeT, h, num_isNum, row_add, hp, addN]

/-- P9 (3), behind the rows with a number. -/
def restT (kind : Int) (u v : TD) : TD :=
  if u = v ∧ (kind = 4 ∨ kind = 8 ∨ kind = 9) then tnum 0
  else if u = v ∧ (kind = 6 ∨ kind = 7) then u
  else if u = v ∧ kind = 10 then tnum 1
  else if kind = 10 ∧ apartT u v = true then tnum 0
  else .two kind u v

theorem row_rest {kind : Int} {u v : TD} (h : v.isNum.bind (besideT kind u) = none) : rowT kind u v = restT kind u v := by
  unfold rowT restT; rw [h]

theorem row_some {kind : Int} {u v t : TD} (h : v.isNum.bind (besideT kind u) = some t) : rowT kind u v = t := by
  unfold rowT; rw [h]

theorem rest_zero {kind : Int} {u v : TD} (h : u = v) (hk : kind = 4 ∨ kind = 8 ∨ kind = 9) : restT kind u v = tnum 0 := by
  unfold restT; rw [if_pos ⟨h, hk⟩]

theorem rest_self {kind : Int} {u v : TD} (h : u = v) (hk : kind = 6 ∨ kind = 7) : restT kind u v = u := by
  unfold restT; rw [if_neg (by omega), if_pos ⟨h, hk⟩]

theorem rest_one {kind : Int} {u v : TD} (h : u = v) (hk : kind = 10) : restT kind u v = tnum 1 := by
  unfold restT; rw [if_neg (by omega), if_neg (by omega), if_pos ⟨h, hk⟩]

theorem rest_apart {kind : Int} {u v : TD} (h : u ≠ v) (hk : kind = 10) (ha : apartT u v = true) : restT kind u v = tnum 0 := by
  unfold restT; rw [if_neg (fun q => h q.1), if_neg (fun q => h q.1), if_neg (fun q => h q.1), if_pos ⟨hk, ha⟩]

theorem rest_else {kind : Int} {u v : TD} (h : u ≠ v) (ha : ¬ (kind = 10 ∧ apartT u v = true)) : restT kind u v = .two kind u v := by
  unfold restT; rw [if_neg (fun q => h q.1), if_neg (fun q => h q.1), if_neg (fun q => h q.1), if_neg ha]

theorem isNum_bind_none {kind : Int} {u v : TD} (h : v.isNum = none) : v.isNum.bind (besideT kind u) = none := by rw [h]; rfl

end Go.Proofs.YtblhmeidbjigaaaGreatDoor

/- Two terms are the same if their texts are: pure. -/
set_option linter.unusedSimpArgs false
set_option linter.unusedVariables false
noncomputable section
namespace Go.Proofs.YtblhmeidbjigaaaGreatDoor
open Go.RowKit Classical

/-- Bytes of a numeral. -/
def numByte (c : UInt8) : Bool := decide (c = 45 ∨ (48 ≤ c.toNat ∧ c.toNat ≤ 57))

theorem digit_byte {d : Nat} (h : d < 10) : (UInt8.ofNat (48 + d)).toNat = 48 + d := by
  rw [UInt8.toNat_ofNat']
  omega

theorem decDigits_bytes (u : Nat) : ∀ c ∈ Lib.decDigits u, 48 ≤ c.toNat ∧ c.toNat ≤ 57 := by
  induction u using Nat.strongRecOn with
  | _ u ih =>
    intro c hc
    by_cases h : u < 10
    · rw [Lib.decDigits_one h] at hc
      simp only [List.mem_singleton] at hc
      subst hc
      rw [digit_byte h]
      omega
    · rw [Lib.decDigits, dif_neg h] at hc
      rcases List.mem_append.1 hc with hc | hc
      · exact ih (u / 10) (by omega) c hc
      · simp only [List.mem_singleton] at hc
        subst hc
        rw [digit_byte (Nat.mod_lt _ (by decide))]
        omega

theorem decDigits_ne (u : Nat) : Lib.decDigits u ≠ [] := by
  intro e
  have := congrArg List.length e
  rw [Lib.decDigits_length] at this
  have := Lib.nDigits_pos u
  simp at *
  omega

theorem decDigits_inj {u v : Nat} (h : Lib.decDigits u = Lib.decDigits v) : u = v := by
  induction u using Nat.strongRecOn generalizing v with
  | _ u ih =>
    by_cases hu : u < 10
    · by_cases hv : v < 10
      · rw [Lib.decDigits_one hu, Lib.decDigits_one hv] at h
        have := congrArg UInt8.toNat (List.cons.inj h).1
        rw [digit_byte hu, digit_byte hv] at this
        omega
      · exfalso
        rw [Lib.decDigits_one hu, Lib.decDigits, dif_neg hv] at h
        have h2 := congrArg List.length h
        simp only [List.length_append, List.length_cons, List.length_nil] at h2
        have := decDigits_ne (v / 10)
        have : 0 < (Lib.decDigits (v / 10)).length := List.length_pos_iff.2 this
        omega
    · by_cases hv : v < 10
      · exfalso
        rw [Lib.decDigits_one hv, Lib.decDigits, dif_neg hu] at h
        have h2 := congrArg List.length h
        simp only [List.length_append, List.length_cons, List.length_nil] at h2
        have := decDigits_ne (u / 10)
        have : 0 < (Lib.decDigits (u / 10)).length := List.length_pos_iff.2 this
        omega
      · rw [Lib.decDigits, dif_neg hu] at h
        conv at h => rhs; rw [Lib.decDigits, dif_neg hv]
        obtain ⟨h1, h2⟩ := List.append_inj' h rfl
        have e1 := ih (u / 10) (by omega) h1
        have e2 := congrArg UInt8.toNat (List.cons.inj h2).1
        rw [digit_byte (Nat.mod_lt _ (by decide)), digit_byte (Nat.mod_lt _ (by decide))] at e2
        omega

theorem itoa_bytes (n : Int) : ∀ c ∈ Lib.itoa n, numByte c = true := by
  intro c hc
  unfold Lib.itoa at hc
  simp only [numByte, decide_eq_true_eq]
  split at hc
  · rcases List.mem_cons.1 hc with hc | hc
    · exact .inl hc
    · exact .inr (decDigits_bytes _ c hc)
  · exact .inr (decDigits_bytes _ c hc)

theorem itoa_head (n : Int) : ∃ c l, Lib.itoa n = c :: l ∧ numByte c = true := by
  cases h : Lib.itoa n with
  | nil =>
    exfalso
    unfold Lib.itoa at h
    split at h
    · cases h
    · exact decDigits_ne _ h
  | cons c l => exact ⟨c, l, rfl, itoa_bytes n c (by rw [h]; simp)⟩

theorem itoa_inj {n m : Int} (h : Lib.itoa n = Lib.itoa m) : n = m := by
  have hd : ∀ u : Nat, ∃ c l, Lib.decDigits u = c :: l ∧ 48 ≤ c.toNat := by
    intro u
    cases e : Lib.decDigits u with
    | nil => exact absurd e (decDigits_ne u)
    | cons c l => exact ⟨c, l, rfl, (decDigits_bytes u c (by rw [e]; simp)).1⟩
  unfold Lib.itoa at h
  split at h
  · split at h
    · have := decDigits_inj (List.cons.inj h).2
      omega
    · exfalso
      obtain ⟨c, l, e, hc⟩ := hd m.toNat
      rw [e] at h
      have := (List.cons.inj h).1
      subst this
      simp at hc
  · split at h
    · exfalso
      obtain ⟨c, l, e, hc⟩ := hd n.toNat
      rw [e] at h
      have := (List.cons.inj h).1
      subst this
      simp at hc
    · have := decDigits_inj h
      omega

/-- Nothing, or a byte that no numeral has. -/
def Stops (x : List UInt8) : Prop := ∀ c l, x = c :: l → numByte c = false

theorem takeWhile_stops {l x : List UInt8} (hl : ∀ c ∈ l, numByte c = true) (hx : Stops x) : (l ++ x).takeWhile numByte = l := by
  induction l with
  | nil =>
    cases x with
    | nil => rfl
    | cons c r => simp [hx c r rfl]
  | cons c r ih =>
    simp only [List.cons_append, List.takeWhile_cons, hl c (by simp), if_true]
    rw [ih (fun d hd => hl d (by simp [hd]))]

theorem itoa_cut {n m : Int} {x y : List UInt8} (hx : Stops x) (hy : Stops y) (h : Lib.itoa n ++ x = Lib.itoa m ++ y) : n = m ∧ x = y := by
  have h1 := takeWhile_stops (itoa_bytes n) hx
  have h2 := takeWhile_stops (itoa_bytes m) hy
  rw [h] at h1
  have e : Lib.itoa n = Lib.itoa m := h1.symm.trans h2
  rw [e] at h
  exact ⟨itoa_inj e, List.append_cancel_left h⟩

/-- Terms as they are made. -/
def TD.ok : TD → Prop
  | .leaf k n => k = 100 ∨ k = 101 ∨ k = 102 ∨ (k = 103 ∧ n = 0)
  | .two k a b => 3 ≤ k ∧ k ≤ 12 ∧ a.ok ∧ b.ok
  | .three k a b c => k = 13 ∧ a.ok ∧ b.ok ∧ c.ok

theorem sign_inj {k q : Int} (hk : 3 ≤ k ∧ k ≤ 13) (hq : 3 ≤ q ∧ q ≤ 13) (h : signT k = signT q) : k = q := by
  have a : k = 3 ∨ k = 4 ∨ k = 5 ∨ k = 6 ∨ k = 7 ∨ k = 8 ∨ k = 9 ∨ k = 10 ∨ k = 11 ∨ k = 12 ∨ k = 13 := by omega
  have b : q = 3 ∨ q = 4 ∨ q = 5 ∨ q = 6 ∨ q = 7 ∨ q = 8 ∨ q = 9 ∨ q = 10 ∨ q = 11 ∨ q = 12 ∨ q = 13 := by omega
  rcases a with rfl | rfl | rfl | rfl | rfl | rfl | rfl | rfl | rfl | rfl | rfl <;>
    rcases b with rfl | rfl | rfl | rfl | rfl | rfl | rfl | rfl | rfl | rfl | rfl <;> first | rfl | (exfalso; revert h; decide)

/-- The first byte of a term's text. -/
theorem show_head (t : TD) (h : t.ok) : ∃ c l, showT t = c :: l ∧ ((∃ n, t = .leaf 100 n ∧ numByte c = true) ∨ (∃ n, t = .leaf 101 n ∧ c = 114) ∨ (∃ n, t = .leaf 102 n ∧ c = 120) ∨ (t = .leaf 103 0 ∧ c = 109) ∨ ((∀ k n, t ≠ .leaf k n) ∧ c = 40)) := by
  cases t with
  | leaf k n =>
    rcases h with rfl | rfl | rfl | ⟨rfl, rfl⟩
    · obtain ⟨c, l, e, hc⟩ := itoa_head n
      exact ⟨c, l, by simpa [showT] using e, .inl ⟨n, rfl, hc⟩⟩
    · exact ⟨114, Lib.itoa n, by simp [showT], .inr (.inl ⟨n, rfl, rfl⟩)⟩
    · exact ⟨120, Lib.itoa n, by simp [showT], .inr (.inr (.inl ⟨n, rfl, rfl⟩))⟩
    · exact ⟨109, [], by simp [showT], .inr (.inr (.inr (.inl ⟨rfl, rfl⟩)))⟩
  | two k a b => exact ⟨40, _, rfl, .inr (.inr (.inr (.inr ⟨(fun _ _ e => by cases e), rfl⟩)))⟩
  | three k a b c => exact ⟨40, _, rfl, .inr (.inr (.inr (.inr ⟨(fun _ _ e => by cases e), rfl⟩)))⟩

theorem stops_of {c : UInt8} (l : List UInt8) (h : numByte c = false) : Stops (c :: l) := fun d r e => by
  obtain ⟨rfl, _⟩ := List.cons.inj e
  exact h

/-- A text is read in one way. -/
theorem show_cut : ∀ (t u : TD) (x y : List UInt8), t.ok → u.ok → Stops x → Stops y → showT t ++ x = showT u ++ y → t = u ∧ x = y := by
  intro t
  induction t with
  | leaf k n =>
    intro u x y ht hu hx hy h
    obtain ⟨c, l, e, hc⟩ := show_head _ ht
    obtain ⟨d, r, e', hd⟩ := show_head u hu
    have hcd : c = d := by rw [e, e'] at h; exact (List.cons.inj h).1
    subst hcd
    rcases hc with ⟨n1, e1, hb⟩ | ⟨n1, e1, rfl⟩ | ⟨n1, e1, rfl⟩ | ⟨e1, rfl⟩ | ⟨e1, rfl⟩
    · rcases hd with ⟨m, rfl, _⟩ | ⟨m, rfl, rfl⟩ | ⟨m, rfl, rfl⟩ | ⟨rfl, rfl⟩ | ⟨_, rfl⟩
      · cases e1
        simp only [showT, if_true] at h
        obtain ⟨rfl, rfl⟩ := itoa_cut hx hy h
        exact ⟨rfl, rfl⟩
      all_goals simp [numByte] at hb
    · rcases hd with ⟨m, rfl, hb⟩ | ⟨m, rfl, _⟩ | ⟨m, rfl, hb⟩ | ⟨rfl, hb⟩ | ⟨_, hb⟩
      · simp [numByte] at hb
      · cases e1
        simp [showT] at h
        obtain ⟨rfl, rfl⟩ := itoa_cut hx hy h
        exact ⟨rfl, rfl⟩
      all_goals simp at hb
    · rcases hd with ⟨m, rfl, hb⟩ | ⟨m, rfl, hb⟩ | ⟨m, rfl, _⟩ | ⟨rfl, hb⟩ | ⟨_, hb⟩
      · simp [numByte] at hb
      · simp at hb
      · cases e1
        simp [showT] at h
        obtain ⟨rfl, rfl⟩ := itoa_cut hx hy h
        exact ⟨rfl, rfl⟩
      all_goals simp at hb
    · rcases hd with ⟨m, rfl, hb⟩ | ⟨m, rfl, hb⟩ | ⟨m, rfl, hb⟩ | ⟨rfl, _⟩ | ⟨_, hb⟩
      · simp [numByte] at hb
      · simp at hb
      · simp at hb
      · cases e1
        simp [showT] at h
        exact ⟨rfl, h⟩
      · simp at hb
    · exact absurd rfl (e1 k n)
  | two k a b iha ihb =>
    intro u x y ht hu hx hy h
    obtain ⟨d, r, e', hd⟩ := show_head u hu
    have hcd : (40 : UInt8) = d := by rw [e'] at h; exact (List.cons.inj h).1
    subst hcd
    rcases hd with ⟨m, rfl, hb⟩ | ⟨m, rfl, hb⟩ | ⟨m, rfl, hb⟩ | ⟨rfl, hb⟩ | ⟨hn, _⟩
    · simp [numByte] at hb
    · simp at hb
    · simp at hb
    · simp at hb
    obtain ⟨k1, k2, oa, ob⟩ := ht
    cases u with
    | leaf q m => exact absurd rfl (hn q m)
    | two q a' b' =>
      obtain ⟨q1, q2, oa', ob'⟩ := hu
      simp only [showT, List.cons_append, List.append_assoc, List.cons.injEq, true_and] at h
      obtain ⟨hs, h⟩ := h
      obtain rfl := sign_inj ⟨k1, by omega⟩ ⟨q1, by omega⟩ hs
      obtain ⟨rfl, h2⟩ := iha a' _ _ oa oa' (stops_of _ (by decide)) (stops_of _ (by decide)) h
      have h3 := (List.cons.inj h2).2
      obtain ⟨rfl, h4⟩ := ihb b' _ _ ob ob' (stops_of _ (by decide)) (stops_of _ (by decide)) h3
      exact ⟨rfl, by simpa using h4⟩
    | three q a' b' c' =>
      exfalso
      obtain ⟨rfl, oa', ob', oc'⟩ := hu
      simp only [showT, List.cons_append, List.append_assoc, List.cons.injEq, true_and] at h
      have := sign_inj ⟨k1, by omega⟩ ⟨by omega, by omega⟩ h.1
      omega
  | three k a b c iha ihb ihc =>
    intro u x y ht hu hx hy h
    obtain ⟨d, r, e', hd⟩ := show_head u hu
    have hcd : (40 : UInt8) = d := by rw [e'] at h; exact (List.cons.inj h).1
    subst hcd
    rcases hd with ⟨m, rfl, hb⟩ | ⟨m, rfl, hb⟩ | ⟨m, rfl, hb⟩ | ⟨rfl, hb⟩ | ⟨hn, _⟩
    · simp [numByte] at hb
    · simp at hb
    · simp at hb
    · simp at hb
    obtain ⟨rfl, oa, ob, oc⟩ := ht
    cases u with
    | leaf q m => exact absurd rfl (hn q m)
    | two q a' b' =>
      exfalso
      obtain ⟨q1, q2, oa', ob'⟩ := hu
      simp only [showT, List.cons_append, List.append_assoc, List.cons.injEq, true_and] at h
      have := sign_inj ⟨by omega, by omega⟩ ⟨q1, by omega⟩ h.1
      omega
    | three q a' b' c' =>
      obtain ⟨rfl, oa', ob', oc'⟩ := hu
      simp only [showT, List.cons_append, List.append_assoc, List.cons.injEq, true_and] at h
      obtain ⟨rfl, h2⟩ := iha a' _ _ oa oa' (stops_of _ (by decide)) (stops_of _ (by decide)) h
      have h3 := (List.cons.inj h2).2
      obtain ⟨rfl, h4⟩ := ihb b' _ _ ob ob' (stops_of _ (by decide)) (stops_of _ (by decide)) h3
      have h5 := (List.cons.inj h4).2
      obtain ⟨rfl, h6⟩ := ihc c' _ _ oc oc' (stops_of _ (by decide)) (stops_of _ (by decide)) h5
      exact ⟨rfl, by simpa using h6⟩

/-- P8: two terms are the same if their texts are. -/
theorem show_inj {t u : TD} (ht : t.ok) (hu : u.ok) (h : showT t = showT u) : t = u :=
  (show_cut t u [] [] ht hu (fun _ _ e => by cases e) (fun _ _ e => by cases e) (by simpa using h)).1

end Go.Proofs.YtblhmeidbjigaaaGreatDoor
