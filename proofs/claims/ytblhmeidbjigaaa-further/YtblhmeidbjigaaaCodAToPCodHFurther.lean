/- Leaf functions of the codec: what each call gives. -/
import Derived.Test.YtblhmeidbjigaaaRows
import Derived.WalkKit
import Derived.WalkSpells
import Derived.WalkLawsBesides
import Derived.Laws.BytesArg
import Derived.Deep.QuietTactic
import Derived.BigQuiet
import Derived.Deep.RegionHeld3

set_option linter.unusedSimpArgs false
set_option linter.unusedVariables false
namespace Go.Proofs.Ytblhmeidbjigaaa
open Go.RowKit

/-- isBelow -/
def below (a b : Int) : Bool := decide (0 ≤ a ∧ a < b)

/-- byteAt -/
def byteOr (d : Int) (s : ByteArray) (i : Int) : Int := if 0 ≤ i ∧ i < s.size then (s[i.toNat]!).toNat else d

def byt (n : Int) : UInt8 := UInt8.ofNat (n % 256).toNat

theorem wrap64_u8 (b : UInt8) : wrap64 (b.toNat : Int) = b.toNat := IntWalk.wrap64_in _ (by have := b.toNat_lt; omega)

theorem conv1 (w : World) (x : Int) : (convert 127 9 (.slice (some ⟨w.heap.size, 0, none⟩) 1 1)).run Try.prog (w.alloc (.cells #[.int .u8 x] 5)) = .ok (.string ⟨#[UInt8.ofNat x.toNat]⟩) (w.alloc (.cells #[.int .u8 x] 5)) := by
  refine run_convert_bytes_arg _ 127 5 Try.underlying127 Try.underlying5 _ 0 1 1 [x] rfl ?_ _ Try.underlying9
  intro i hi
  obtain rfl : i = 0 := by omega
  simp

theorem conv4 (w : World) (x y z u : Int) : (convert 127 9 (.slice (some ⟨w.heap.size, 0, none⟩) 4 4)).run Try.prog (w.alloc (.cells #[.int .u8 x, .int .u8 y, .int .u8 z, .int .u8 u] 5)) = .ok (.string ⟨#[UInt8.ofNat x.toNat, UInt8.ofNat y.toNat, UInt8.ofNat z.toNat, UInt8.ofNat u.toNat]⟩) (w.alloc (.cells #[.int .u8 x, .int .u8 y, .int .u8 z, .int .u8 u] 5)) := by
  refine run_convert_bytes_arg _ 127 5 Try.underlying127 Try.underlying5 _ 0 4 4 [x, y, z, u] rfl ?_ _ Try.underlying9
  intro i hi
  obtain rfl | rfl | rfl | rfl : i = 0 ∨ i = 1 ∨ i = 2 ∨ i = 3 := by omega
  all_goals simp

set_option maxHeartbeats 400000 in
theorem isBelow_any (a b : Int) (w : World) :
    Calls Try.prog 87 #[.int .i64 a, .int .i64 b] w fun e w' => e = .returned (.bool (below a b)) ∧ w = w' := by
  by_cases h : 0 ≤ a
  · go_enter Try.func87, Try.ntmps87
    go_wp2
    go_ret
    exact ⟨by simp [below, h], rfl⟩
  · have hb : below a b = false := by simp only [below, h, false_and, decide_false]
    go_enter Try.func87, Try.ntmps87
    go_wp2
    go_ret
    exact ⟨rfl, rfl⟩

set_option maxHeartbeats 400000 in
theorem byteAt_any (s : ByteArray) (i : Int) (w : World) (hs : s.size ≤ maxLen) :
    Calls Try.prog 69 #[.string s, .int .i64 i] w fun e w' => e = .returned (.int .i64 (byteOr (-1) s i)) ∧ w = w' := by
  unfold maxLen at hs
  by_cases h : 0 ≤ i ∧ i < s.size
  · have hb : below i s.size = true := by simp [below, h]
    obtain ⟨h1, h2⟩ := h
    obtain ⟨n, rfl⟩ := Int.eq_ofNat_of_zero_le h1
    go_enter Try.func69, Try.ntmps69
    go_wp2_with (go_at_call 87; refine (isBelow_any _ _ _).mono ?_; rintro e w' ⟨rfl, rfl⟩)
    go_ret
    refine ⟨?_, rfl⟩
    simp [byteOr, h1, h2, getElem!_pos, show n < s.size by omega, wrap64_u8]
  · have hb : below i s.size = false := by simp only [below, h, decide_false]
    have hc : byteOr (-1) s i = -1 := by simp only [byteOr, h, if_false]
    go_enter Try.func69, Try.ntmps69
    go_wp2_with (go_at_call 87; refine (isBelow_any _ _ _).mono ?_; rintro e w' ⟨rfl, rfl⟩)
    go_ret
    exact ⟨by simp [hc], rfl⟩

set_option maxRecDepth 100000 in
set_option maxHeartbeats 400000 in
theorem oneByte_any (a : Int) (w : World) :
    Calls Try.prog 74 #[.int .i64 a] w fun e w' => e = .returned (.string ⟨#[byt a]⟩) ∧ Below w.heap.size w w' := by
  have hk := conv1 w
  go_enter Try.func74, Try.ntmps74
  go_wp2
  go_ret
  exact ⟨rfl, (Below.refl _ _).alloc (Nat.le_refl _) _⟩

set_option maxRecDepth 100000 in
set_option maxHeartbeats 400000 in
theorem fourBytes_any (a b c d : Int) (w : World) :
    Calls Try.prog 73 #[.int .i64 a, .int .i64 b, .int .i64 c, .int .i64 d] w fun e w' => e = .returned (.string ⟨#[byt a, byt b, byt c, byt d]⟩) ∧ Below w.heap.size w w' := by
  have hk := conv4 w
  go_enter Try.func73, Try.ntmps73
  go_wp2
  go_ret
  exact ⟨rfl, (Below.refl _ _).alloc (Nat.le_refl _) _⟩

end Go.Proofs.Ytblhmeidbjigaaa

/- Leaf functions of the document's answer: what each call gives. -/
set_option linter.unusedSimpArgs false
set_option linter.unusedVariables false
namespace Go.Proofs.Ytblhmeidbjigaaa
open Go.RowKit

/-- The first k numbers as bytes in cells. -/
def rowB (xs : List Int) (k : Nat) : List Value := (xs.take k).map fun n => Value.int .u8 (n % 256)

end Go.Proofs.Ytblhmeidbjigaaa

/- Hints and programs as plain data; how they lie in memory. -/
set_option linter.unusedSimpArgs false
set_option linter.unusedVariables false
namespace Go.Proofs.Ytblhmeidbjigaaa
open Go.RowKit

/-! ### Plain data -/

structure PairD where
  reg : Int
  place : Int

structure PingD where
  src : Int
  pairs : List PairD

def hz : PingD := ⟨0, []⟩

/-! ### Well made hints -/

theorem drop_getD {α : Type} (l : List α) (d : α) (k : Nat) (h : k < l.length) : l.drop k = l.getD k d :: l.drop (k + 1) := by
  rw [List.drop_eq_getElem_cons h]; simp [h]

/-! ### How they lie in memory -/

theorem cell_keep {w w' : World} (hb : Below w.heap.size w w') {a : Addr} {v : Value} (h : w.cell? a = some v) : w'.cell? a = some v :=
  (hb.cell (World.block_lt_of_cell? w a h)).trans h

/-- A frame that opened with one new block. -/
theorem Below.under {w w' : World} {o : Obj} (h : Below (w.heap.size + 1) (w.alloc o) w') : Below w.heap.size w w' :=
  ((Below.refl w.heap.size w).alloc (Nat.le_refl _) o).trans (h.mono (by omega))

/-! ### A region whose order is open, its calls making memory: any world that keeps what lay below B -/

structure Past (B : Nat) (w : World) where
  wd : World
  ok : Below B w wd

theorem wp_region_past {P : Program} {id : Nat} {Q : Exit → Act → World → Prop} {a : Act} {w : World} {l : List Oper} (B : Nat) (hm : P.follows .mixedOrders = true) (hB : Region.lexB .any l.toArray = true)
    (h : wpQuiet P l.toArray (fun w' => ∃ x : Past B w, w' = x.wd) (fun a' => ∀ w', (∃ x : Past B w, w' = x.wd) → Q .normal a' w') l a) : (Code.region id l.toArray true).wp P Q a w :=
  wp_region_quiet (C := fun w' => ∃ x : Past B w, w' = x.wd) hm hB ⟨⟨w.drew, (Below.refl B w).drew⟩, rfl⟩ (by simpa using h)

theorem Calls.past_of {P : Program} {f : FuncId} {args : Array Value} {w : World} {B : Nat} {x : Past B w} {v : Value} (hB : B ≤ w.heap.size)
    (h : Calls P f args x.wd fun e w' => e = .returned v ∧ Below x.wd.heap.size x.wd w') : Calls P f args x.wd fun e w'' => e = .returned v ∧ ∃ y : Past B w, w'' = y.wd :=
  h.mono fun _ w' ⟨he, hb⟩ => ⟨he, ⟨w', x.ok.trans (hb.mono (Nat.le_trans hB x.ok.size))⟩, rfl⟩

theorem Past.any (B : Nat) (w : World) : Nonempty (Past B w) := ⟨⟨w, Below.refl B w⟩⟩

theorem Past.cell {w : World} (x : Past w.heap.size w) {a : Addr} {v : Value} (h : w.cell? a = some v) : x.wd.cell? a = some v := cell_keep x.ok h

theorem owns_slice {w : World} {base : Nat} {e : TypeId} {size : Nat} {v : Value} {n : Nat} {xs : List Value} (h : w.ownsRow base e size v n xs) : ∃ ao cap, v = .slice ao n cap := by
  rcases h.2 with ⟨rfl, rfl⟩ | ⟨g, cap, cur, rfl, _⟩
  · exact ⟨_, _, rfl⟩
  · exact ⟨_, _, rfl⟩

theorem owns_base {w : World} {base base' : Nat} {e : TypeId} {size : Nat} {v : Value} {n : Nat} {xs : List Value} (h : w.ownsRow base e size v n xs) (hb : base' ≤ base) : w.ownsRow base' e size v n xs := by
  refine ⟨h.1, ?_⟩
  rcases h.2 with h2 | ⟨g, cap, cur, hv, hg, r⟩
  · exact .inl h2
  · exact .inr ⟨g, cap, cur, hv, Nat.le_trans hb hg, r⟩

theorem cell_set {w : World} {a : Addr} {u v : Value} (h : w.cell? a = some u) : (w.setCell a v).cell? a = some v := World.cell?_setCell_same _ _ _ h

theorem cell_unset {w : World} {a b : Addr} {u v : Value} (hn : a ≠ b) (h : w.cell? b = some u) : (w.setCell a v).cell? b = some u := (World.cell?_setCell_other _ _ _ _ hn).trans h

/-! ### Texts -/

/-- A text out of bytes. -/
def str (l : List UInt8) : ByteArray := ⟨l.toArray⟩

theorem str_append (a b : List UInt8) : str a ++ str b = str (a ++ b) := by
  apply ByteArray.ext
  simp [str]

theorem take_getD {α : Type} (l : List α) (d : α) (k : Nat) (h : k < l.length) : l.take (k + 1) = l.take k ++ [l.getD k d] := by
  rw [List.take_succ_eq_append_getElem h]; simp [h]

theorem getD_mem' {α : Type} {l : List α} {d : α} {k : Nat} (h : k < l.length) : l.getD k d ∈ l := by
  simp [h]

end Go.Proofs.Ytblhmeidbjigaaa

/- Reading a hint in the codec. -/
set_option linter.unusedSimpArgs false
set_option linter.unusedVariables false
namespace Go.Proofs.Ytblhmeidbjigaaa
open Go.RowKit

theorem byteOr_bd (d : Int) (s : ByteArray) (i : Int) (hd : -1 ≤ d ∧ d ≤ 255) : -1 ≤ byteOr d s i ∧ byteOr d s i ≤ 255 := by
  unfold byteOr
  split
  · have := (s[i.toNat]!).toNat_lt; omega
  · exact hd

end Go.Proofs.Ytblhmeidbjigaaa

/- Hints that lie in memory of their own, each list for itself. -/
set_option linter.unusedSimpArgs false
set_option linter.unusedVariables false
namespace Go.Proofs.Ytblhmeidbjigaaa
open Go.RowKit

section
variable {w w' : World} {base base' : Nat} {e : TypeId} {size : Nat} {v : Value} {n : Nat} {xs : List Value}

/-- What lies in a block that has not turned. -/
theorem owns_same (h : w.ownsRow base e size v n xs) (hb : ∀ g, v.ownBlock = some g → w'.heap[g]? = w.heap[g]?) : w'.ownsRow base e size v n xs := by
  refine ⟨h.1, ?_⟩
  rcases h.2 with h2 | ⟨g, cap, cur, rfl, hg, hh, r⟩
  · exact .inl h2
  · exact .inr ⟨g, cap, cur, rfl, hg, (hb g rfl).trans hh, r⟩

theorem owns_below {B : Nat} (h : w.ownsRow base e size v n xs) (hb : Below B w w') (hB : w.heap.size ≤ B) : w'.ownsRow base e size v n xs :=
  owns_same h fun g hg => hb.block g (Nat.lt_of_lt_of_le (h.lt g hg).2 hB)

/-- Rows of different types lie in different blocks. -/
theorem owns_apart {e' : TypeId} {size' : Nat} {v' : Value} {n' : Nat} {xs' : List Value} (h : w.ownsRow base e size v n xs) (h' : w.ownsRow base' e' size' v' n' xs') (he : e ≠ e') : ∀ g, v.ownBlock = some g → v'.ownBlock ≠ some g := by
  intro g hg hg'
  rcases h.2 with ⟨rfl, _⟩ | ⟨k, cap, cur, rfl, _, hh, _⟩
  · simp [Value.ownBlock] at hg
  rcases h'.2 with ⟨rfl, _⟩ | ⟨k', cap', cur', rfl, _, hh', _⟩
  · simp [Value.ownBlock] at hg'
  simp [Value.ownBlock] at hg hg'
  subst hg; subst hg'
  rw [hh] at hh'
  simp at hh'
  exact he hh'.2

theorem owns_cell (h : w.ownsRow base e size v n xs) {ao : Option Addr} {cap : Nat} (hv : v = .slice ao n cap) {i : Nat} (hi : i < xs.length) :
    ∃ b, ao = some ⟨b, 0, none⟩ ∧ base ≤ b ∧ v.ownBlock = some b ∧ w.cell? ⟨b, i, none⟩ = some xs[i] := by
  rcases h.2 with ⟨h1, h0⟩ | ⟨g, cap', cur, h1, hg, hh, r⟩
  · have := h.1
    simp [h0] at this
    simp [this] at hi
  · subst hv
    simp at h1
    obtain ⟨rfl, rfl⟩ := h1
    refine ⟨g, rfl, hg, rfl, ?_⟩
    have := h.cells (g := g) rfl i xs[i] (by simp)
    rwa [Addr.add_lit, Nat.zero_add] at this

theorem owns_le (h : w.ownsRow base e size v n xs) : n ≤ 9223372036854775807 := by
  rcases h.2 with ⟨h1, h0⟩ | ⟨g, cap', cur, h1, hg, hh, h2, h3, r⟩
  · omega
  · unfold maxLen at h3; omega
end

end Go.Proofs.Ytblhmeidbjigaaa

/- Texts of hints: what is read is what was written. -/
set_option linter.unusedSimpArgs false
set_option linter.unusedVariables false
namespace Go.Proofs.Ytblhmeidbjigaaa
open Go.RowKit

theorem byt_toNat {n : Int} (h0 : 0 ≤ n) (h1 : n < 256) : ((byt n).toNat : Int) = n := by
  unfold byt
  rw [UInt8.toNat_ofNat']
  omega

theorem byt_of (b : UInt8) : byt (b.toNat : Int) = b := by
  unfold byt
  have := b.toNat_lt
  apply UInt8.toNat_inj.1
  rw [UInt8.toNat_ofNat']
  omega

theorem str_size (l : List UInt8) : (str l).size = l.length := by simp [str, ByteArray.size]

theorem byteOr_str {d : Int} {l : List UInt8} {i : Nat} {b : UInt8} (h : l[i]? = some b) : byteOr d (str l) i = b.toNat := by
  have hi : i < l.length := (List.getElem?_eq_some_iff.1 h).1
  have e : l[i] = b := (List.getElem?_eq_some_iff.1 h).2
  unfold byteOr
  rw [if_pos (by rw [str_size]; omega)]
  have : (str l)[(i : Int).toNat]! = b := by
    rw [Int.toNat_natCast, getElem!_pos _ _ (by rw [str_size]; exact hi), ← e]
    rfl
  rw [this]

theorem str_of (s : ByteArray) : s = str s.data.toList := by simp [str]

theorem get_mid {l a b c : List UInt8} {o i : Nat} {x : UInt8} (hl : l = a ++ b ++ c) (ho : a.length = o) (h : b[i]? = some x) : l[o + i]? = some x := by
  have hi : i < b.length := (List.getElem?_eq_some_iff.1 h).1
  subst hl; subst ho
  rw [List.append_assoc, List.getElem?_append_right (by omega), Nat.add_sub_cancel_left, List.getElem?_append_left hi, h]

/-! ### Back: what was read, written again -/

theorem byteOr_in {d : Int} {s : ByteArray} {i : Nat} (hi : i < s.size) : byteOr d s i = (s.data.toList[i]'(by simpa using hi)).toNat := by
  have h : s.data.toList[i]? = some (s.data.toList[i]'(by simpa using hi)) := List.getElem?_eq_getElem _
  have := byteOr_str (d := d) h
  rwa [← str_of] at this

/-- A stretch of a text. -/
def seg (s : ByteArray) (i n : Nat) : List UInt8 := (s.data.toList.drop i).take n

theorem seg_two {s : ByteArray} {i : Nat} (h : i + 1 < s.size) : seg s i 2 = [byt (byteOr (-1) s i), byt (byteOr (-1) s ((i : Int) + 1))] := by
  have hl : s.data.toList.length = s.size := Array.length_toList
  rw [show (i : Int) + 1 = ((i + 1 : Nat) : Int) by omega, byteOr_in (show i < s.size by omega), byteOr_in h, byt_of, byt_of]
  unfold seg
  rw [List.drop_eq_getElem_cons (by omega), List.drop_eq_getElem_cons (by omega)]
  rfl

theorem seg_add (s : ByteArray) (i n m : Nat) : seg s i (n + m) = seg s i n ++ seg s (i + n) m := by
  unfold seg
  rw [List.take_add, List.drop_drop]

/-! ### The two contracts, in the document's words -/

end Go.Proofs.Ytblhmeidbjigaaa

/- Appending to a list of one's own: what was there stays. -/
set_option linter.unusedSimpArgs false
set_option linter.unusedVariables false
namespace Go.Proofs.Ytblhmeidbjigaaa
open Go.RowKit

section
variable {P : Program} (w : World)

end

/-- A row that is the beginning of another one in its block. -/
theorem owns_pre {w w' : World} {B B' : Nat} {e : TypeId} {sz : Nat} {v lv : Value} {n m : Nat} {xs ys t : List Value} (hsz : 0 < sz) (h : w.ownsRow B e sz v n xs) (hl : w.ownsRow B' e sz lv m ys) {g : Nat} (hg : v.ownBlock = some g) (hg' : lv.ownBlock = some g)
    (hl' : w'.ownsRow B' e sz lv m ys) (ht : ys = xs ++ t) : w'.ownsRow B e sz v n xs := by
  refine ⟨h.1, ?_⟩
  rcases h.2 with ⟨rfl, _⟩ | ⟨k, cap, cur, rfl, hk, hh, h1, h2, h3, h4⟩
  · simp [Value.ownBlock] at hg
  rcases hl.2 with ⟨rfl, _⟩ | ⟨k', cap', cur', rfl, hk', hh', g1, g2, g3, g4⟩
  · simp [Value.ownBlock] at hg'
  simp only [Value.ownBlock, Option.some.injEq] at hg hg'
  subst hg; subst hg'
  rw [hh] at hh'
  simp only [Option.some.injEq, Obj.cells.injEq, and_true] at hh'
  have hcur : cur = cur' := hh'
  subst hcur
  have hcap : cap = cap' := by
    have : cap * sz = cap' * sz := by rw [← h3, ← g3]
    exact Nat.eq_of_mul_eq_mul_right hsz this
  subst hcap
  rcases hl'.2 with ⟨hx, _⟩ | ⟨k2, cap2, cur2, hx, hk2, hh2, f1, f2, f3, f4⟩
  · simp at hx
  simp only [Value.slice.injEq, Option.some.injEq, Addr.mk.injEq, and_true, true_and] at hx
  obtain ⟨rfl, rfl⟩ := hx
  refine .inr ⟨_, _, cur2, rfl, hk, hh2, h1, h2, f3, ?_⟩
  have hnm : n * sz ≤ m * sz := by rw [← h.1, ← hl.1, ht]; simp
  have e1 : cur2.toList.take (n * sz) = (cur2.toList.take (m * sz)).take (n * sz) := by rw [List.take_take, Nat.min_eq_left hnm]
  rw [e1, f4, ht, ← h.1, List.take_left]

theorem owns_frozen {w : World} {B : Nat} {e : TypeId} {sz : Nat} {v : Value} {n : Nat} {xs : List Value} (h : w.ownsRow B e sz v n xs) {g : Nat} (hg : v.ownBlock = some g) (o : Nat) : w.frozen? ⟨g, o, none⟩ = false := by
  rcases h.2 with ⟨rfl, _⟩ | ⟨k, cap, cur, rfl, hk, hh, _⟩
  · simp [Value.ownBlock] at hg
  · simp only [Value.ownBlock, Option.some.injEq] at hg
    subst hg
    simp [World.frozen?, hh]

end Go.Proofs.Ytblhmeidbjigaaa

/- Storing into a hint of one's own. -/
set_option linter.unusedSimpArgs false
set_option linter.unusedVariables false
namespace Go.Proofs.Ytblhmeidbjigaaa
open Go.RowKit

/-- What lay there has not turned, but for the blocks of S. -/
structure Keep (S : Nat → Prop) (w w' : World) : Prop where
  os : w'.os = w.os
  tape : w'.tape = w.tape
  output : w'.output = w.output
  size : w.heap.size ≤ w'.heap.size
  block : ∀ k, k < w.heap.size → ¬ S k → w'.heap[k]? = w.heap[k]?

theorem Keep.refl (S : Nat → Prop) (w : World) : Keep S w w := ⟨rfl, rfl, rfl, Nat.le_refl _, fun _ _ _ => rfl⟩

theorem Keep.step {S : Nat → Prop} {w a b : World} (h : Keep S w a) (hos : b.os = a.os) (ht : b.tape = a.tape) (ho : b.output = a.output) (hs : a.heap.size ≤ b.heap.size) (hb : ∀ k, k < w.heap.size → ¬ S k → b.heap[k]? = a.heap[k]?) : Keep S w b :=
  ⟨hos.trans h.os, ht.trans h.tape, ho.trans h.output, Nat.le_trans h.size hs, fun k hk hn => (hb k hk hn).trans (h.block k hk hn)⟩

theorem Keep.alloc {S : Nat → Prop} {w a : World} (h : Keep S w a) (o : Obj) : Keep S w (a.alloc o) :=
  h.step rfl rfl rfl (by simp) fun k hk _ => Below.heap_alloc _ _ _ (Nat.lt_of_lt_of_le hk h.size)

theorem Keep.setCell {S : Nat → Prop} {w a : World} (h : Keep S w a) {p : Addr} (hp : S p.block ∨ w.heap.size ≤ p.block) (u : Value) : Keep S w (a.setCell p u) :=
  h.step rfl rfl rfl (by simp) fun k hk hn => Below.heap_setCell _ _ _ _ (fun e => by subst e; rcases hp with hp | hp; exact hn hp; omega)

theorem Keep.grown {S : Nat → Prop} {w a b : World} {row : Option Nat} (h : Keep S w a) (hg : a.grownBy b row) (hr : ∀ g, row = some g → S g ∨ w.heap.size ≤ g) : Keep S w b :=
  h.step hg.os hg.tape hg.output hg.size fun k hk hn => hg.block k (Nat.lt_of_lt_of_le hk h.size) (fun e => by rcases hr k e.symm with hp | hp; exact hn hp; omega)

theorem Keep.below {S : Nat → Prop} {w a b : World} (h : Keep S w a) {B : Nat} (hb : Below B a b) (hB : w.heap.size ≤ B) : Keep S w b :=
  h.step hb.os hb.tape hb.output hb.size fun k hk _ => hb.block k (by omega)

theorem Keep.toBelow {S : Nat → Prop} {w a : World} (h : Keep S w a) {B : Nat} (hB : B ≤ w.heap.size) (hS : ∀ k, S k → B ≤ k) : Below B w a :=
  ⟨h.os, h.tape, h.output, h.size, fun k hk => h.block k (by omega) (fun hk' => by have := hS k hk'; omega)⟩

theorem Keep.cell {S : Nat → Prop} {w a : World} (h : Keep S w a) {b o : Nat} (hb : ¬ S b) {u : Value} (hc : w.cell? ⟨b, o, none⟩ = some u) : a.cell? ⟨b, o, none⟩ = some u :=
  (World.cell?_of_block (w := w) (h.block b (World.block_lt_of_cell? w _ hc) hb)).trans hc

theorem owns_set {w : World} {B : Nat} {e : TypeId} {sz : Nat} {v : Value} {n : Nat} {xs : List Value} (h : w.ownsRow B e sz v n xs) {g i : Nat} (hg : v.ownBlock = some g) (hi : i < xs.length) (u : Value) :
    (w.setCell ⟨g, i, none⟩ u).ownsRow B e sz v n (xs.set i u) := by
  refine ⟨by rw [List.length_set]; exact h.1, ?_⟩
  rcases h.2 with ⟨rfl, _⟩ | ⟨k, cap, cur, rfl, hk, hh, h1, h2, h3, h4⟩
  · simp [Value.ownBlock] at hg
  simp only [Value.ownBlock, Option.some.injEq] at hg
  subst hg
  refine .inr ⟨k, cap, cur.setIfInBounds i u, rfl, hk, heap_setCell_same w k i cur e u hh, h1, h2, by simpa using h3, ?_⟩
  rw [Array.toList_setIfInBounds, List.take_set, h4]

theorem owns_unset {w : World} {B : Nat} {e : TypeId} {sz : Nat} {v : Value} {n : Nat} {xs : List Value} (h : w.ownsRow B e sz v n xs) {g i : Nat} (hg : v.ownBlock ≠ some g) (u : Value) :
    (w.setCell ⟨g, i, none⟩ u).ownsRow B e sz v n xs :=
  owns_same h fun k hk => Below.heap_setCell _ _ _ _ (fun e => hg (by rw [hk, e]))

end Go.Proofs.Ytblhmeidbjigaaa

/- Rows of memory as lists: made, copied into, written. -/
set_option linter.unusedSimpArgs false
set_option linter.unusedVariables false
namespace Go.Proofs.Ytblhmeidbjigaaa
open Go.RowKit

/-- Block g is a row of cells xs of type e, none frozen. -/
def Row (w : World) (g : Nat) (e : TypeId) (xs : List Value) : Prop := w.heap[g]? = some (.cells xs.toArray e (0, 0))

theorem Row.cell {w : World} {g : Nat} {e : TypeId} {xs : List Value} (h : Row w g e xs) {i : Nat} {u : Value} (hi : xs[i]? = some u) : w.cell? ⟨g, i, none⟩ = some u := by
  unfold Row at h
  simp [World.cell?, h, hi]

theorem Row.frozen {w : World} {g : Nat} {e : TypeId} {xs : List Value} (h : Row w g e xs) (i : Nat) : w.frozen? ⟨g, i, none⟩ = false := by
  unfold Row at h
  simp [World.frozen?, h]

theorem Row.lt {w : World} {g : Nat} {e : TypeId} {xs : List Value} (h : Row w g e xs) : g < w.heap.size := (Array.getElem?_eq_some_iff.1 h).1

theorem Row.same {w w' : World} {g : Nat} {e : TypeId} {xs : List Value} (h : Row w g e xs) (hs : w'.heap[g]? = w.heap[g]?) : Row w' g e xs := hs.trans h

theorem Row.below {w w' : World} {g B : Nat} {e : TypeId} {xs : List Value} (h : Row w g e xs) (hb : Below B w w') (hg : g < B) : Row w' g e xs := h.same (hb.block g hg)

theorem Row.keep {w w' : World} {g : Nat} {e : TypeId} {xs : List Value} (h : Row w g e xs) (hb : Below w.heap.size w w') : Row w' g e xs := h.below hb h.lt

theorem Row.alloc {w : World} {g : Nat} {e : TypeId} {xs : List Value} (h : Row w g e xs) (o : Obj) : Row (w.alloc o) g e xs := h.same (Below.heap_alloc w o g h.lt)

theorem Row.set {w : World} {g : Nat} {e : TypeId} {xs : List Value} (h : Row w g e xs) (i : Nat) (u : Value) : Row (w.setCell ⟨g, i, none⟩ u) g e (xs.set i u) := by
  have := heap_setCell_same w g i xs.toArray e u h
  unfold Row
  rw [this]
  simp

theorem Row.unset {w : World} {g : Nat} {e : TypeId} {xs : List Value} (h : Row w g e xs) {a : Addr} (ha : g ≠ a.block) (u : Value) : Row (w.setCell a u) g e xs := h.same (Below.heap_setCell _ _ _ _ ha)

section
variable {P : Program} (w : World)

end

end Go.Proofs.Ytblhmeidbjigaaa

/- Programs as plain data; how they lie in memory. -/
set_option linter.unusedSimpArgs false
set_option linter.unusedVariables false
namespace Go.Proofs.Ytblhmeidbjigaaa
open Go.RowKit

structure OpD where
  kind : Int
  a : Int
  b : Int
  c : Int

structure EndD where
  kind : Int
  r : Int
  x : Int
  y : Int

structure BlockD where
  ops : List OpD
  fin : EndD

structure ProgD where
  args : Int
  regs : Int
  data : Int
  slots : Int
  blocks : List BlockD

def oz : OpD := ⟨0, 0, 0, 0⟩
def ez : EndD := ⟨0, 0, 0, 0⟩
def bz : BlockD := ⟨[], ez⟩

def okind (l : List OpD) (k : Nat) : Int := (l.getD k oz).kind
def oa (l : List OpD) (k : Nat) : Int := (l.getD k oz).a
def ob (l : List OpD) (k : Nat) : Int := (l.getD k oz).b
def oc (l : List OpD) (k : Nat) : Int := (l.getD k oz).c
def bops (l : List BlockD) (k : Nat) : List OpD := (l.getD k bz).ops
def bfin (l : List BlockD) (k : Nat) : EndD := (l.getD k bz).fin
def bek (l : List BlockD) (k : Nat) : Int := (bfin l k).kind
def ber (l : List BlockD) (k : Nat) : Int := (bfin l k).r
def bex (l : List BlockD) (k : Nat) : Int := (bfin l k).x
def bey (l : List BlockD) (k : Nat) : Int := (bfin l k).y

/-! ### Well made -/

def opGood (regs slots : Int) (o : OpD) : Bool :=
  if o.kind = 1 then below o.a regs && below o.b 256 && below o.c 256
  else if 3 ≤ o.kind ∧ o.kind ≤ 11 then below o.a regs && below o.b regs && below o.c regs
  else if o.kind = 2 ∨ o.kind = 12 ∨ o.kind = 13 then below o.a regs && below o.b regs && decide (o.c = 0)
  else if o.kind = 14 then below o.a slots && below o.b regs && decide (o.c = 0)
  else if o.kind = 15 then below o.a regs && below o.b slots && decide (o.c = 0)
  else false

def endGood (regs n : Int) (e : EndD) : Bool :=
  if e.kind = 1 then decide (e.r = 0) && below e.x n && decide (e.y = 0)
  else if e.kind = 2 then below e.r regs && below e.x n && below e.y n
  else if e.kind = 3 then below e.r regs && decide (e.x = 0) && decide (e.y = 0)
  else false

def opsGood (regs slots : Int) (l : List OpD) : Bool := l.all (opGood regs slots)

def blockGood (regs slots n : Int) (b : BlockD) : Bool := decide (b.ops.length ≤ 12) && opsGood regs slots b.ops && endGood regs n b.fin

def blocksGood (regs slots n : Int) (l : List BlockD) : Bool := l.all (blockGood regs slots n)

def progGood (p : ProgD) : Bool :=
  decide (1 ≤ p.regs ∧ p.regs ≤ 8) && decide (0 ≤ p.args ∧ p.args ≤ p.regs) && decide (0 ≤ p.data ∧ p.data ≤ 8) && decide (0 ≤ p.slots ∧ p.slots ≤ 8) && decide (1 ≤ p.blocks.length ∧ p.blocks.length ≤ 6) &&
    blocksGood p.regs p.slots p.blocks.length p.blocks

def ogFrom (regs slots : Int) (l : List OpD) (k : Nat) : Bool := opsGood regs slots (l.drop k)
def bgFrom (regs slots n : Int) (l : List BlockD) (k : Nat) : Bool := blocksGood regs slots n (l.drop k)

theorem ogFrom_end {regs slots : Int} {l : List OpD} {k : Nat} (h : l.length ≤ k) : ogFrom regs slots l k = true := by
  unfold ogFrom; rw [List.drop_of_length_le h]; rfl
theorem ogFrom_step {regs slots : Int} {l : List OpD} {k : Nat} (h : k < l.length) : ogFrom regs slots l k = (opGood regs slots ⟨okind l k, oa l k, ob l k, oc l k⟩ && ogFrom regs slots l (k + 1)) := by
  unfold ogFrom; rw [drop_getD l oz k h]; rfl
theorem bgFrom_end {regs slots n : Int} {l : List BlockD} {k : Nat} (h : l.length ≤ k) : bgFrom regs slots n l k = true := by
  unfold bgFrom; rw [List.drop_of_length_le h]; rfl
theorem bgFrom_step {regs slots n : Int} {l : List BlockD} {k : Nat} (h : k < l.length) : bgFrom regs slots n l k = (blockGood regs slots n ⟨bops l k, ⟨bek l k, ber l k, bex l k, bey l k⟩⟩ && bgFrom regs slots n l (k + 1)) := by
  unfold bgFrom; rw [drop_getD l bz k h]; rfl

/-! ### In memory -/

def RdOps (w : World) (v : Value) (l : List OpD) : Prop :=
  ∃ ao cap, v = .slice ao l.length cap ∧ l.length ≤ 9223372036854775807 ∧ ∀ i, i < l.length → ∃ b off, ao = some ⟨b, off, none⟩ ∧
    w.cell? ⟨b, off + i * 4, none⟩ = some (.int .i64 (okind l i)) ∧ w.cell? ⟨b, off + i * 4 + 1, none⟩ = some (.int .i64 (oa l i)) ∧ w.cell? ⟨b, off + i * 4 + 2, none⟩ = some (.int .i64 (ob l i)) ∧ w.cell? ⟨b, off + i * 4 + 3, none⟩ = some (.int .i64 (oc l i))

def RdBlocks (w : World) (v : Value) (l : List BlockD) : Prop :=
  ∃ ao cap, v = .slice ao l.length cap ∧ l.length ≤ 9223372036854775807 ∧ ∀ i, i < l.length → ∃ b off sv, ao = some ⟨b, off, none⟩ ∧
    w.cell? ⟨b, off + i * 5, none⟩ = some sv ∧ w.cell? ⟨b, off + i * 5 + 1, none⟩ = some (.int .i64 (bek l i)) ∧ w.cell? ⟨b, off + i * 5 + 2, none⟩ = some (.int .i64 (ber l i)) ∧ w.cell? ⟨b, off + i * 5 + 3, none⟩ = some (.int .i64 (bex l i)) ∧ w.cell? ⟨b, off + i * 5 + 4, none⟩ = some (.int .i64 (bey l i)) ∧
    RdOps w sv (bops l i)

theorem RdOps.keep {w w' : World} {v : Value} {l : List OpD} (h : RdOps w v l) (hb : Below w.heap.size w w') : RdOps w' v l := by
  obtain ⟨ao, cap, rfl, hl, hc⟩ := h
  exact ⟨ao, cap, rfl, hl, fun i hi => let ⟨b, off, e, h1, h2, h3, h4⟩ := hc i hi; ⟨b, off, e, cell_keep hb h1, cell_keep hb h2, cell_keep hb h3, cell_keep hb h4⟩⟩

theorem RdBlocks.keep {w w' : World} {v : Value} {l : List BlockD} (h : RdBlocks w v l) (hb : Below w.heap.size w w') : RdBlocks w' v l := by
  obtain ⟨ao, cap, rfl, hl, hc⟩ := h
  exact ⟨ao, cap, rfl, hl, fun i hi => let ⟨b, off, sv, e, h1, h2, h3, h4, h5, h6⟩ := hc i hi; ⟨b, off, sv, e, cell_keep hb h1, cell_keep hb h2, cell_keep hb h3, cell_keep hb h4, cell_keep hb h5, h6.keep hb⟩⟩

/-- A program as a value. -/
def progV (p : ProgD) (v : Value) : Value := .agg #[.int .i64 p.args, .int .i64 p.regs, .int .i64 p.data, .int .i64 p.slots, v]

/-! ### Texts -/

def opText (o : OpD) : List UInt8 := [byt o.kind, byt o.a, byt o.b, byt o.c]
def opsText (l : List OpD) : List UInt8 := l.flatMap opText
def endText (e : EndD) : List UInt8 := [byt e.kind, byt e.r, byt e.x, byt e.y]
def blockText (b : BlockD) : List UInt8 := [byt b.ops.length] ++ opsText b.ops ++ endText b.fin
def headText (p : ProgD) : List UInt8 := [84, 87, byt p.args, byt p.regs, byt p.data, byt p.slots, byt p.blocks.length]
def progText (p : ProgD) : List UInt8 := headText p ++ p.blocks.flatMap blockText

theorem opsText_length (l : List OpD) : (opsText l).length = 4 * l.length := by
  induction l with
  | nil => rfl
  | cons p r ih => simp only [opsText, List.flatMap_cons, List.length_append, List.length_cons, opText, List.length_nil] at *; omega

theorem blockText_length (b : BlockD) : (blockText b).length = 5 + 4 * b.ops.length := by
  simp [blockText, opsText_length, endText]; omega

/-- A block's text as far as its first k operations. -/
def blockTo (l : List OpD) (k : Nat) : ByteArray := str ([byt l.length] ++ opsText (l.take k))

theorem blockTo_step {l : List OpD} {k : Nat} (h : k < l.length) : blockTo l (k + 1) = blockTo l k ++ ⟨#[byt (okind l k), byt (oa l k), byt (ob l k), byt (oc l k)]⟩ := by
  show _ = str _ ++ str [_, _, _, _]
  rw [str_append]
  simp [blockTo, opsText, take_getD l oz k h, okind, oa, ob, oc, opText]

theorem blockTo_end {l : List OpD} {k : Nat} (e : EndD) (h : l.length ≤ k) : blockTo l k ++ ⟨#[byt e.kind, byt e.r, byt e.x, byt e.y]⟩ = str (blockText ⟨l, e⟩) := by
  show str _ ++ str [_, _, _, _] = _
  rw [str_append]
  simp [blockText, endText, List.take_of_length_le h]

theorem blockTo_size (l : List OpD) (k : Nat) (h : k ≤ l.length) : (blockTo l k).size = 1 + 4 * k := by
  simp [blockTo, str, ByteArray.size, opsText_length, List.length_take, Nat.min_eq_left h]
  omega

/-- A program's text as far as its first k blocks. -/
def progTo (p : ProgD) (k : Nat) : ByteArray := str (headText p ++ (p.blocks.take k).flatMap blockText)

theorem progTo_step {p : ProgD} {k : Nat} (h : k < p.blocks.length) : progTo p (k + 1) = progTo p k ++ str (blockText ⟨bops p.blocks k, ⟨bek p.blocks k, ber p.blocks k, bex p.blocks k, bey p.blocks k⟩⟩) := by
  unfold progTo
  rw [str_append, take_getD p.blocks bz k h, List.flatMap_append, List.append_assoc]
  simp [bops, bek, ber, bex, bey, bfin]

theorem progTo_end {p : ProgD} {k : Nat} (h : p.blocks.length ≤ k) : progTo p k = str (progText p) := by
  simp [progTo, progText, List.take_of_length_le h]

theorem progGood_len {p : ProgD} (hg : progGood p = true) : 1 ≤ p.blocks.length ∧ p.blocks.length ≤ 6 := by
  simp [progGood] at hg; omega

theorem progGood_block {p : ProgD} (hg : progGood p = true) (x : BlockD) (hx : x ∈ p.blocks) : blockGood p.regs p.slots p.blocks.length x = true := by
  simp [progGood, blocksGood] at hg; exact hg.2 x hx

theorem progGood_ops {p : ProgD} (hg : progGood p = true) {k : Nat} (hk : k < p.blocks.length) : (bops p.blocks k).length ≤ 12 := by
  have := progGood_block hg (p.blocks.getD k bz) (getD_mem' hk)
  simp [blockGood] at this
  exact this.1.1

theorem bflat_le {l : List BlockD} (h : ∀ x ∈ l, x.ops.length ≤ 12) : (l.flatMap blockText).length ≤ 53 * l.length := by
  induction l with
  | nil => simp
  | cons x r ih =>
    have h1 := h x (by simp)
    have h2 := ih (fun y hy => h y (by simp [hy]))
    simp only [List.flatMap_cons, List.length_append, blockText_length, List.length_cons]
    omega

theorem progTo_size {p : ProgD} (hg : progGood p = true) (k : Nat) : (progTo p k).size ≤ 330 := by
  have h1 := progGood_len hg
  have h2 := bflat_le (l := p.blocks.take k) (fun x hx => by
    have := progGood_block hg x (List.mem_of_mem_take hx)
    simp [blockGood] at this
    exact this.1.1)
  have h3 : (p.blocks.take k).length ≤ 6 := Nat.le_trans (List.length_take_le' _ _) h1.2
  have e : (progTo p k).size = 7 + ((p.blocks.take k).flatMap blockText).length := by
    simp [progTo, str, ByteArray.size, headText]; omega
  omega

end Go.Proofs.Ytblhmeidbjigaaa

/- Well made programs, in the codec. -/
set_option linter.unusedSimpArgs false
set_option linter.unusedVariables false
namespace Go.Proofs.Ytblhmeidbjigaaa
open Go.RowKit

theorem int_beq0 (c : Int) : (c == 0) = decide (c = 0) := by by_cases h : c = 0 <;> simp [h]

set_option maxRecDepth 100000 in
set_option maxHeartbeats 2000000 in
theorem wmOp1 (args regs data slots : Int) (bo : Option Addr) (bn bc : Nat) (a b c : Int) (w : World) :
    Calls Try.prog 96 #[.agg #[.int .i64 args, .int .i64 regs, .int .i64 data, .int .i64 slots, .slice bo bn bc], .agg #[.int .i64 1, .int .i64 a, .int .i64 b, .int .i64 c]] w fun e w' => e = .returned (.bool (opGood regs slots ⟨1, a, b, c⟩)) ∧ Below w.heap.size w w' := by
  cases h1 : below a regs
  · go_enter Try.func96, Try.ntmps96
    go_wp2_with (go_at_call 87; refine (isBelow_any _ _ _).mono ?_; rintro e w' ⟨rfl, rfl⟩)
    go_ret
    exact ⟨by simp [opGood, h1], ((Below.refl _ _).alloc (Nat.le_refl _) _).alloc (by simp) _⟩
  cases h2 : below b 256
  · go_enter Try.func96, Try.ntmps96
    go_wp2_with (go_at_call 87; refine (isBelow_any _ _ _).mono ?_; rintro e w' ⟨rfl, rfl⟩)
    go_ret
    exact ⟨by simp [opGood, h1, h2, int_beq0], ((Below.refl _ _).alloc (Nat.le_refl _) _).alloc (by simp) _⟩
  · go_enter Try.func96, Try.ntmps96
    go_wp2_with (go_at_call 87; refine (isBelow_any _ _ _).mono ?_; rintro e w' ⟨rfl, rfl⟩)
    go_ret
    exact ⟨by simp [opGood, h1, h2, int_beq0], ((Below.refl _ _).alloc (Nat.le_refl _) _).alloc (by simp) _⟩

set_option maxRecDepth 100000 in
set_option maxHeartbeats 2000000 in
theorem wmOp2 (args regs data slots : Int) (bo : Option Addr) (bn bc : Nat) (a b c : Int) (w : World) :
    Calls Try.prog 96 #[.agg #[.int .i64 args, .int .i64 regs, .int .i64 data, .int .i64 slots, .slice bo bn bc], .agg #[.int .i64 2, .int .i64 a, .int .i64 b, .int .i64 c]] w fun e w' => e = .returned (.bool (opGood regs slots ⟨2, a, b, c⟩)) ∧ Below w.heap.size w w' := by
  cases h1 : below a regs
  · go_enter Try.func96, Try.ntmps96
    go_wp2_with (go_at_call 87; refine (isBelow_any _ _ _).mono ?_; rintro e w' ⟨rfl, rfl⟩)
    go_ret
    exact ⟨by simp [opGood, h1], ((Below.refl _ _).alloc (Nat.le_refl _) _).alloc (by simp) _⟩
  cases h2 : below b regs
  · go_enter Try.func96, Try.ntmps96
    go_wp2_with (go_at_call 87; refine (isBelow_any _ _ _).mono ?_; rintro e w' ⟨rfl, rfl⟩)
    go_ret
    exact ⟨by simp [opGood, h1, h2, int_beq0], ((Below.refl _ _).alloc (Nat.le_refl _) _).alloc (by simp) _⟩
  · go_enter Try.func96, Try.ntmps96
    go_wp2_with (go_at_call 87; refine (isBelow_any _ _ _).mono ?_; rintro e w' ⟨rfl, rfl⟩)
    go_ret
    exact ⟨by simp [opGood, h1, h2, int_beq0], ((Below.refl _ _).alloc (Nat.le_refl _) _).alloc (by simp) _⟩

set_option maxRecDepth 100000 in
set_option maxHeartbeats 2000000 in
theorem wmOp3 (args regs data slots : Int) (bo : Option Addr) (bn bc : Nat) (a b c : Int) (w : World) :
    Calls Try.prog 96 #[.agg #[.int .i64 args, .int .i64 regs, .int .i64 data, .int .i64 slots, .slice bo bn bc], .agg #[.int .i64 3, .int .i64 a, .int .i64 b, .int .i64 c]] w fun e w' => e = .returned (.bool (opGood regs slots ⟨3, a, b, c⟩)) ∧ Below w.heap.size w w' := by
  cases h1 : below a regs
  · go_enter Try.func96, Try.ntmps96
    go_wp2_with (go_at_call 87; refine (isBelow_any _ _ _).mono ?_; rintro e w' ⟨rfl, rfl⟩)
    go_ret
    exact ⟨by simp [opGood, h1], ((Below.refl _ _).alloc (Nat.le_refl _) _).alloc (by simp) _⟩
  cases h2 : below b regs
  · go_enter Try.func96, Try.ntmps96
    go_wp2_with (go_at_call 87; refine (isBelow_any _ _ _).mono ?_; rintro e w' ⟨rfl, rfl⟩)
    go_ret
    exact ⟨by simp [opGood, h1, h2, int_beq0], ((Below.refl _ _).alloc (Nat.le_refl _) _).alloc (by simp) _⟩
  · go_enter Try.func96, Try.ntmps96
    go_wp2_with (go_at_call 87; refine (isBelow_any _ _ _).mono ?_; rintro e w' ⟨rfl, rfl⟩)
    go_ret
    exact ⟨by simp [opGood, h1, h2, int_beq0], ((Below.refl _ _).alloc (Nat.le_refl _) _).alloc (by simp) _⟩

set_option maxRecDepth 100000 in
set_option maxHeartbeats 2000000 in
theorem wmOp4 (args regs data slots : Int) (bo : Option Addr) (bn bc : Nat) (a b c : Int) (w : World) :
    Calls Try.prog 96 #[.agg #[.int .i64 args, .int .i64 regs, .int .i64 data, .int .i64 slots, .slice bo bn bc], .agg #[.int .i64 4, .int .i64 a, .int .i64 b, .int .i64 c]] w fun e w' => e = .returned (.bool (opGood regs slots ⟨4, a, b, c⟩)) ∧ Below w.heap.size w w' := by
  cases h1 : below a regs
  · go_enter Try.func96, Try.ntmps96
    go_wp2_with (go_at_call 87; refine (isBelow_any _ _ _).mono ?_; rintro e w' ⟨rfl, rfl⟩)
    go_ret
    exact ⟨by simp [opGood, h1], ((Below.refl _ _).alloc (Nat.le_refl _) _).alloc (by simp) _⟩
  cases h2 : below b regs
  · go_enter Try.func96, Try.ntmps96
    go_wp2_with (go_at_call 87; refine (isBelow_any _ _ _).mono ?_; rintro e w' ⟨rfl, rfl⟩)
    go_ret
    exact ⟨by simp [opGood, h1, h2, int_beq0], ((Below.refl _ _).alloc (Nat.le_refl _) _).alloc (by simp) _⟩
  · go_enter Try.func96, Try.ntmps96
    go_wp2_with (go_at_call 87; refine (isBelow_any _ _ _).mono ?_; rintro e w' ⟨rfl, rfl⟩)
    go_ret
    exact ⟨by simp [opGood, h1, h2, int_beq0], ((Below.refl _ _).alloc (Nat.le_refl _) _).alloc (by simp) _⟩

set_option maxRecDepth 100000 in
set_option maxHeartbeats 2000000 in
theorem wmOp5 (args regs data slots : Int) (bo : Option Addr) (bn bc : Nat) (a b c : Int) (w : World) :
    Calls Try.prog 96 #[.agg #[.int .i64 args, .int .i64 regs, .int .i64 data, .int .i64 slots, .slice bo bn bc], .agg #[.int .i64 5, .int .i64 a, .int .i64 b, .int .i64 c]] w fun e w' => e = .returned (.bool (opGood regs slots ⟨5, a, b, c⟩)) ∧ Below w.heap.size w w' := by
  cases h1 : below a regs
  · go_enter Try.func96, Try.ntmps96
    go_wp2_with (go_at_call 87; refine (isBelow_any _ _ _).mono ?_; rintro e w' ⟨rfl, rfl⟩)
    go_ret
    exact ⟨by simp [opGood, h1], ((Below.refl _ _).alloc (Nat.le_refl _) _).alloc (by simp) _⟩
  cases h2 : below b regs
  · go_enter Try.func96, Try.ntmps96
    go_wp2_with (go_at_call 87; refine (isBelow_any _ _ _).mono ?_; rintro e w' ⟨rfl, rfl⟩)
    go_ret
    exact ⟨by simp [opGood, h1, h2, int_beq0], ((Below.refl _ _).alloc (Nat.le_refl _) _).alloc (by simp) _⟩
  · go_enter Try.func96, Try.ntmps96
    go_wp2_with (go_at_call 87; refine (isBelow_any _ _ _).mono ?_; rintro e w' ⟨rfl, rfl⟩)
    go_ret
    exact ⟨by simp [opGood, h1, h2, int_beq0], ((Below.refl _ _).alloc (Nat.le_refl _) _).alloc (by simp) _⟩

set_option maxRecDepth 100000 in
set_option maxHeartbeats 2000000 in
theorem wmOp6 (args regs data slots : Int) (bo : Option Addr) (bn bc : Nat) (a b c : Int) (w : World) :
    Calls Try.prog 96 #[.agg #[.int .i64 args, .int .i64 regs, .int .i64 data, .int .i64 slots, .slice bo bn bc], .agg #[.int .i64 6, .int .i64 a, .int .i64 b, .int .i64 c]] w fun e w' => e = .returned (.bool (opGood regs slots ⟨6, a, b, c⟩)) ∧ Below w.heap.size w w' := by
  cases h1 : below a regs
  · go_enter Try.func96, Try.ntmps96
    go_wp2_with (go_at_call 87; refine (isBelow_any _ _ _).mono ?_; rintro e w' ⟨rfl, rfl⟩)
    go_ret
    exact ⟨by simp [opGood, h1], ((Below.refl _ _).alloc (Nat.le_refl _) _).alloc (by simp) _⟩
  cases h2 : below b regs
  · go_enter Try.func96, Try.ntmps96
    go_wp2_with (go_at_call 87; refine (isBelow_any _ _ _).mono ?_; rintro e w' ⟨rfl, rfl⟩)
    go_ret
    exact ⟨by simp [opGood, h1, h2, int_beq0], ((Below.refl _ _).alloc (Nat.le_refl _) _).alloc (by simp) _⟩
  · go_enter Try.func96, Try.ntmps96
    go_wp2_with (go_at_call 87; refine (isBelow_any _ _ _).mono ?_; rintro e w' ⟨rfl, rfl⟩)
    go_ret
    exact ⟨by simp [opGood, h1, h2, int_beq0], ((Below.refl _ _).alloc (Nat.le_refl _) _).alloc (by simp) _⟩

set_option maxRecDepth 100000 in
set_option maxHeartbeats 2000000 in
theorem wmOp7 (args regs data slots : Int) (bo : Option Addr) (bn bc : Nat) (a b c : Int) (w : World) :
    Calls Try.prog 96 #[.agg #[.int .i64 args, .int .i64 regs, .int .i64 data, .int .i64 slots, .slice bo bn bc], .agg #[.int .i64 7, .int .i64 a, .int .i64 b, .int .i64 c]] w fun e w' => e = .returned (.bool (opGood regs slots ⟨7, a, b, c⟩)) ∧ Below w.heap.size w w' := by
  cases h1 : below a regs
  · go_enter Try.func96, Try.ntmps96
    go_wp2_with (go_at_call 87; refine (isBelow_any _ _ _).mono ?_; rintro e w' ⟨rfl, rfl⟩)
    go_ret
    exact ⟨by simp [opGood, h1], ((Below.refl _ _).alloc (Nat.le_refl _) _).alloc (by simp) _⟩
  cases h2 : below b regs
  · go_enter Try.func96, Try.ntmps96
    go_wp2_with (go_at_call 87; refine (isBelow_any _ _ _).mono ?_; rintro e w' ⟨rfl, rfl⟩)
    go_ret
    exact ⟨by simp [opGood, h1, h2, int_beq0], ((Below.refl _ _).alloc (Nat.le_refl _) _).alloc (by simp) _⟩
  · go_enter Try.func96, Try.ntmps96
    go_wp2_with (go_at_call 87; refine (isBelow_any _ _ _).mono ?_; rintro e w' ⟨rfl, rfl⟩)
    go_ret
    exact ⟨by simp [opGood, h1, h2, int_beq0], ((Below.refl _ _).alloc (Nat.le_refl _) _).alloc (by simp) _⟩

set_option maxRecDepth 100000 in
set_option maxHeartbeats 2000000 in
theorem wmOp8 (args regs data slots : Int) (bo : Option Addr) (bn bc : Nat) (a b c : Int) (w : World) :
    Calls Try.prog 96 #[.agg #[.int .i64 args, .int .i64 regs, .int .i64 data, .int .i64 slots, .slice bo bn bc], .agg #[.int .i64 8, .int .i64 a, .int .i64 b, .int .i64 c]] w fun e w' => e = .returned (.bool (opGood regs slots ⟨8, a, b, c⟩)) ∧ Below w.heap.size w w' := by
  cases h1 : below a regs
  · go_enter Try.func96, Try.ntmps96
    go_wp2_with (go_at_call 87; refine (isBelow_any _ _ _).mono ?_; rintro e w' ⟨rfl, rfl⟩)
    go_ret
    exact ⟨by simp [opGood, h1], ((Below.refl _ _).alloc (Nat.le_refl _) _).alloc (by simp) _⟩
  cases h2 : below b regs
  · go_enter Try.func96, Try.ntmps96
    go_wp2_with (go_at_call 87; refine (isBelow_any _ _ _).mono ?_; rintro e w' ⟨rfl, rfl⟩)
    go_ret
    exact ⟨by simp [opGood, h1, h2, int_beq0], ((Below.refl _ _).alloc (Nat.le_refl _) _).alloc (by simp) _⟩
  · go_enter Try.func96, Try.ntmps96
    go_wp2_with (go_at_call 87; refine (isBelow_any _ _ _).mono ?_; rintro e w' ⟨rfl, rfl⟩)
    go_ret
    exact ⟨by simp [opGood, h1, h2, int_beq0], ((Below.refl _ _).alloc (Nat.le_refl _) _).alloc (by simp) _⟩

set_option maxRecDepth 100000 in
set_option maxHeartbeats 2000000 in
theorem wmOp9 (args regs data slots : Int) (bo : Option Addr) (bn bc : Nat) (a b c : Int) (w : World) :
    Calls Try.prog 96 #[.agg #[.int .i64 args, .int .i64 regs, .int .i64 data, .int .i64 slots, .slice bo bn bc], .agg #[.int .i64 9, .int .i64 a, .int .i64 b, .int .i64 c]] w fun e w' => e = .returned (.bool (opGood regs slots ⟨9, a, b, c⟩)) ∧ Below w.heap.size w w' := by
  cases h1 : below a regs
  · go_enter Try.func96, Try.ntmps96
    go_wp2_with (go_at_call 87; refine (isBelow_any _ _ _).mono ?_; rintro e w' ⟨rfl, rfl⟩)
    go_ret
    exact ⟨by simp [opGood, h1], ((Below.refl _ _).alloc (Nat.le_refl _) _).alloc (by simp) _⟩
  cases h2 : below b regs
  · go_enter Try.func96, Try.ntmps96
    go_wp2_with (go_at_call 87; refine (isBelow_any _ _ _).mono ?_; rintro e w' ⟨rfl, rfl⟩)
    go_ret
    exact ⟨by simp [opGood, h1, h2, int_beq0], ((Below.refl _ _).alloc (Nat.le_refl _) _).alloc (by simp) _⟩
  · go_enter Try.func96, Try.ntmps96
    go_wp2_with (go_at_call 87; refine (isBelow_any _ _ _).mono ?_; rintro e w' ⟨rfl, rfl⟩)
    go_ret
    exact ⟨by simp [opGood, h1, h2, int_beq0], ((Below.refl _ _).alloc (Nat.le_refl _) _).alloc (by simp) _⟩

set_option maxRecDepth 100000 in
set_option maxHeartbeats 2000000 in
theorem wmOp10 (args regs data slots : Int) (bo : Option Addr) (bn bc : Nat) (a b c : Int) (w : World) :
    Calls Try.prog 96 #[.agg #[.int .i64 args, .int .i64 regs, .int .i64 data, .int .i64 slots, .slice bo bn bc], .agg #[.int .i64 10, .int .i64 a, .int .i64 b, .int .i64 c]] w fun e w' => e = .returned (.bool (opGood regs slots ⟨10, a, b, c⟩)) ∧ Below w.heap.size w w' := by
  cases h1 : below a regs
  · go_enter Try.func96, Try.ntmps96
    go_wp2_with (go_at_call 87; refine (isBelow_any _ _ _).mono ?_; rintro e w' ⟨rfl, rfl⟩)
    go_ret
    exact ⟨by simp [opGood, h1], ((Below.refl _ _).alloc (Nat.le_refl _) _).alloc (by simp) _⟩
  cases h2 : below b regs
  · go_enter Try.func96, Try.ntmps96
    go_wp2_with (go_at_call 87; refine (isBelow_any _ _ _).mono ?_; rintro e w' ⟨rfl, rfl⟩)
    go_ret
    exact ⟨by simp [opGood, h1, h2, int_beq0], ((Below.refl _ _).alloc (Nat.le_refl _) _).alloc (by simp) _⟩
  · go_enter Try.func96, Try.ntmps96
    go_wp2_with (go_at_call 87; refine (isBelow_any _ _ _).mono ?_; rintro e w' ⟨rfl, rfl⟩)
    go_ret
    exact ⟨by simp [opGood, h1, h2, int_beq0], ((Below.refl _ _).alloc (Nat.le_refl _) _).alloc (by simp) _⟩

set_option maxRecDepth 100000 in
set_option maxHeartbeats 2000000 in
theorem wmOp11 (args regs data slots : Int) (bo : Option Addr) (bn bc : Nat) (a b c : Int) (w : World) :
    Calls Try.prog 96 #[.agg #[.int .i64 args, .int .i64 regs, .int .i64 data, .int .i64 slots, .slice bo bn bc], .agg #[.int .i64 11, .int .i64 a, .int .i64 b, .int .i64 c]] w fun e w' => e = .returned (.bool (opGood regs slots ⟨11, a, b, c⟩)) ∧ Below w.heap.size w w' := by
  cases h1 : below a regs
  · go_enter Try.func96, Try.ntmps96
    go_wp2_with (go_at_call 87; refine (isBelow_any _ _ _).mono ?_; rintro e w' ⟨rfl, rfl⟩)
    go_ret
    exact ⟨by simp [opGood, h1], ((Below.refl _ _).alloc (Nat.le_refl _) _).alloc (by simp) _⟩
  cases h2 : below b regs
  · go_enter Try.func96, Try.ntmps96
    go_wp2_with (go_at_call 87; refine (isBelow_any _ _ _).mono ?_; rintro e w' ⟨rfl, rfl⟩)
    go_ret
    exact ⟨by simp [opGood, h1, h2, int_beq0], ((Below.refl _ _).alloc (Nat.le_refl _) _).alloc (by simp) _⟩
  · go_enter Try.func96, Try.ntmps96
    go_wp2_with (go_at_call 87; refine (isBelow_any _ _ _).mono ?_; rintro e w' ⟨rfl, rfl⟩)
    go_ret
    exact ⟨by simp [opGood, h1, h2, int_beq0], ((Below.refl _ _).alloc (Nat.le_refl _) _).alloc (by simp) _⟩

set_option maxRecDepth 100000 in
set_option maxHeartbeats 2000000 in
theorem wmOp12 (args regs data slots : Int) (bo : Option Addr) (bn bc : Nat) (a b c : Int) (w : World) :
    Calls Try.prog 96 #[.agg #[.int .i64 args, .int .i64 regs, .int .i64 data, .int .i64 slots, .slice bo bn bc], .agg #[.int .i64 12, .int .i64 a, .int .i64 b, .int .i64 c]] w fun e w' => e = .returned (.bool (opGood regs slots ⟨12, a, b, c⟩)) ∧ Below w.heap.size w w' := by
  cases h1 : below a regs
  · go_enter Try.func96, Try.ntmps96
    go_wp2_with (go_at_call 87; refine (isBelow_any _ _ _).mono ?_; rintro e w' ⟨rfl, rfl⟩)
    go_ret
    exact ⟨by simp [opGood, h1], ((Below.refl _ _).alloc (Nat.le_refl _) _).alloc (by simp) _⟩
  cases h2 : below b regs
  · go_enter Try.func96, Try.ntmps96
    go_wp2_with (go_at_call 87; refine (isBelow_any _ _ _).mono ?_; rintro e w' ⟨rfl, rfl⟩)
    go_ret
    exact ⟨by simp [opGood, h1, h2, int_beq0], ((Below.refl _ _).alloc (Nat.le_refl _) _).alloc (by simp) _⟩
  · go_enter Try.func96, Try.ntmps96
    go_wp2_with (go_at_call 87; refine (isBelow_any _ _ _).mono ?_; rintro e w' ⟨rfl, rfl⟩)
    go_ret
    exact ⟨by simp [opGood, h1, h2, int_beq0], ((Below.refl _ _).alloc (Nat.le_refl _) _).alloc (by simp) _⟩

set_option maxRecDepth 100000 in
set_option maxHeartbeats 2000000 in
theorem wmOp13 (args regs data slots : Int) (bo : Option Addr) (bn bc : Nat) (a b c : Int) (w : World) :
    Calls Try.prog 96 #[.agg #[.int .i64 args, .int .i64 regs, .int .i64 data, .int .i64 slots, .slice bo bn bc], .agg #[.int .i64 13, .int .i64 a, .int .i64 b, .int .i64 c]] w fun e w' => e = .returned (.bool (opGood regs slots ⟨13, a, b, c⟩)) ∧ Below w.heap.size w w' := by
  cases h1 : below a regs
  · go_enter Try.func96, Try.ntmps96
    go_wp2_with (go_at_call 87; refine (isBelow_any _ _ _).mono ?_; rintro e w' ⟨rfl, rfl⟩)
    go_ret
    exact ⟨by simp [opGood, h1], ((Below.refl _ _).alloc (Nat.le_refl _) _).alloc (by simp) _⟩
  cases h2 : below b regs
  · go_enter Try.func96, Try.ntmps96
    go_wp2_with (go_at_call 87; refine (isBelow_any _ _ _).mono ?_; rintro e w' ⟨rfl, rfl⟩)
    go_ret
    exact ⟨by simp [opGood, h1, h2, int_beq0], ((Below.refl _ _).alloc (Nat.le_refl _) _).alloc (by simp) _⟩
  · go_enter Try.func96, Try.ntmps96
    go_wp2_with (go_at_call 87; refine (isBelow_any _ _ _).mono ?_; rintro e w' ⟨rfl, rfl⟩)
    go_ret
    exact ⟨by simp [opGood, h1, h2, int_beq0], ((Below.refl _ _).alloc (Nat.le_refl _) _).alloc (by simp) _⟩

set_option maxRecDepth 100000 in
set_option maxHeartbeats 2000000 in
theorem wmOp14 (args regs data slots : Int) (bo : Option Addr) (bn bc : Nat) (a b c : Int) (w : World) :
    Calls Try.prog 96 #[.agg #[.int .i64 args, .int .i64 regs, .int .i64 data, .int .i64 slots, .slice bo bn bc], .agg #[.int .i64 14, .int .i64 a, .int .i64 b, .int .i64 c]] w fun e w' => e = .returned (.bool (opGood regs slots ⟨14, a, b, c⟩)) ∧ Below w.heap.size w w' := by
  cases h1 : below a slots
  · go_enter Try.func96, Try.ntmps96
    go_wp2_with (go_at_call 87; refine (isBelow_any _ _ _).mono ?_; rintro e w' ⟨rfl, rfl⟩)
    go_ret
    exact ⟨by simp [opGood, h1], ((Below.refl _ _).alloc (Nat.le_refl _) _).alloc (by simp) _⟩
  cases h2 : below b regs
  · go_enter Try.func96, Try.ntmps96
    go_wp2_with (go_at_call 87; refine (isBelow_any _ _ _).mono ?_; rintro e w' ⟨rfl, rfl⟩)
    go_ret
    exact ⟨by simp [opGood, h1, h2, int_beq0], ((Below.refl _ _).alloc (Nat.le_refl _) _).alloc (by simp) _⟩
  · go_enter Try.func96, Try.ntmps96
    go_wp2_with (go_at_call 87; refine (isBelow_any _ _ _).mono ?_; rintro e w' ⟨rfl, rfl⟩)
    go_ret
    exact ⟨by simp [opGood, h1, h2, int_beq0], ((Below.refl _ _).alloc (Nat.le_refl _) _).alloc (by simp) _⟩

set_option maxRecDepth 100000 in
set_option maxHeartbeats 2000000 in
theorem wmOp15 (args regs data slots : Int) (bo : Option Addr) (bn bc : Nat) (a b c : Int) (w : World) :
    Calls Try.prog 96 #[.agg #[.int .i64 args, .int .i64 regs, .int .i64 data, .int .i64 slots, .slice bo bn bc], .agg #[.int .i64 15, .int .i64 a, .int .i64 b, .int .i64 c]] w fun e w' => e = .returned (.bool (opGood regs slots ⟨15, a, b, c⟩)) ∧ Below w.heap.size w w' := by
  cases h1 : below a regs
  · go_enter Try.func96, Try.ntmps96
    go_wp2_with (go_at_call 87; refine (isBelow_any _ _ _).mono ?_; rintro e w' ⟨rfl, rfl⟩)
    go_ret
    exact ⟨by simp [opGood, h1], ((Below.refl _ _).alloc (Nat.le_refl _) _).alloc (by simp) _⟩
  cases h2 : below b slots
  · go_enter Try.func96, Try.ntmps96
    go_wp2_with (go_at_call 87; refine (isBelow_any _ _ _).mono ?_; rintro e w' ⟨rfl, rfl⟩)
    go_ret
    exact ⟨by simp [opGood, h1, h2, int_beq0], ((Below.refl _ _).alloc (Nat.le_refl _) _).alloc (by simp) _⟩
  · go_enter Try.func96, Try.ntmps96
    go_wp2_with (go_at_call 87; refine (isBelow_any _ _ _).mono ?_; rintro e w' ⟨rfl, rfl⟩)
    go_ret
    exact ⟨by simp [opGood, h1, h2, int_beq0], ((Below.refl _ _).alloc (Nat.le_refl _) _).alloc (by simp) _⟩

set_option maxRecDepth 100000 in
set_option maxHeartbeats 2000000 in
theorem wmOpNo (args regs data slots : Int) (bo : Option Addr) (bn bc : Nat) (k a b c : Int) (w : World) (hk : ¬ (1 ≤ k ∧ k ≤ 15)) :
    Calls Try.prog 96 #[.agg #[.int .i64 args, .int .i64 regs, .int .i64 data, .int .i64 slots, .slice bo bn bc], .agg #[.int .i64 k, .int .i64 a, .int .i64 b, .int .i64 c]] w fun e w' => e = .returned (.bool (opGood regs slots ⟨k, a, b, c⟩)) ∧ Below w.heap.size w w' := by
  have hg : opGood regs slots ⟨k, a, b, c⟩ = false := by
    unfold opGood
    rw [if_neg (by simp only []; omega), if_neg (by simp only []; omega), if_neg (by simp only []; omega), if_neg (by simp only []; omega), if_neg (by simp only []; omega)]
  have n1 : (k == 1) = false := by rw [beq_eq_false_iff_ne]; omega
  have n2 : (k == 2) = false := by rw [beq_eq_false_iff_ne]; omega
  have n3 : (k == 3) = false := by rw [beq_eq_false_iff_ne]; omega
  have n4 : (k == 4) = false := by rw [beq_eq_false_iff_ne]; omega
  have n5 : (k == 5) = false := by rw [beq_eq_false_iff_ne]; omega
  have n6 : (k == 6) = false := by rw [beq_eq_false_iff_ne]; omega
  have n7 : (k == 7) = false := by rw [beq_eq_false_iff_ne]; omega
  have n8 : (k == 8) = false := by rw [beq_eq_false_iff_ne]; omega
  have n9 : (k == 9) = false := by rw [beq_eq_false_iff_ne]; omega
  have n10 : (k == 10) = false := by rw [beq_eq_false_iff_ne]; omega
  have n11 : (k == 11) = false := by rw [beq_eq_false_iff_ne]; omega
  have n12 : (k == 12) = false := by rw [beq_eq_false_iff_ne]; omega
  have n13 : (k == 13) = false := by rw [beq_eq_false_iff_ne]; omega
  have n14 : (k == 14) = false := by rw [beq_eq_false_iff_ne]; omega
  have n15 : (k == 15) = false := by rw [beq_eq_false_iff_ne]; omega
  go_enter Try.func96, Try.ntmps96
  go_wp2
  go_ret
  exact ⟨by simp [hg], ((Below.refl _ _).alloc (Nat.le_refl _) _).alloc (by simp) _⟩

theorem wmOp_any (args regs data slots : Int) (bo : Option Addr) (bn bc : Nat) (k a b c : Int) (w : World) :
    Calls Try.prog 96 #[.agg #[.int .i64 args, .int .i64 regs, .int .i64 data, .int .i64 slots, .slice bo bn bc], .agg #[.int .i64 k, .int .i64 a, .int .i64 b, .int .i64 c]] w fun e w' => e = .returned (.bool (opGood regs slots ⟨k, a, b, c⟩)) ∧ Below w.heap.size w w' := by
  by_cases hk : 1 ≤ k ∧ k ≤ 15
  · have : k = 1 ∨ k = 2 ∨ k = 3 ∨ k = 4 ∨ k = 5 ∨ k = 6 ∨ k = 7 ∨ k = 8 ∨ k = 9 ∨ k = 10 ∨ k = 11 ∨ k = 12 ∨ k = 13 ∨ k = 14 ∨ k = 15 := by omega
    rcases this with rfl | rfl | rfl | rfl | rfl | rfl | rfl | rfl | rfl | rfl | rfl | rfl | rfl | rfl | rfl
    · exact wmOp1 args regs data slots bo bn bc a b c w
    · exact wmOp2 args regs data slots bo bn bc a b c w
    · exact wmOp3 args regs data slots bo bn bc a b c w
    · exact wmOp4 args regs data slots bo bn bc a b c w
    · exact wmOp5 args regs data slots bo bn bc a b c w
    · exact wmOp6 args regs data slots bo bn bc a b c w
    · exact wmOp7 args regs data slots bo bn bc a b c w
    · exact wmOp8 args regs data slots bo bn bc a b c w
    · exact wmOp9 args regs data slots bo bn bc a b c w
    · exact wmOp10 args regs data slots bo bn bc a b c w
    · exact wmOp11 args regs data slots bo bn bc a b c w
    · exact wmOp12 args regs data slots bo bn bc a b c w
    · exact wmOp13 args regs data slots bo bn bc a b c w
    · exact wmOp14 args regs data slots bo bn bc a b c w
    · exact wmOp15 args regs data slots bo bn bc a b c w
  · exact wmOpNo args regs data slots bo bn bc k a b c w hk

end Go.Proofs.Ytblhmeidbjigaaa
