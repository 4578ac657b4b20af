/- Leaf functions of the codec: what each call gives. -/
import Derived.Test.YtdjdjkgoelbbdaaRows
import Derived.WalkKit
import Derived.WalkSpells
import Derived.WalkLawsBesides
import Derived.Laws.BytesArg
import Derived.Deep.QuietTactic
import Derived.BigQuiet
set_option linter.unusedSimpArgs false
set_option linter.unusedVariables false
namespace Go.Proofs.Ytdjdjkgoelbbdaa
open Go.RowKit

/-- isBelow -/
def below (a b : Int) : Bool := decide (0 ≤ a ∧ a < b)

/-- byteAt -/
def byteOr (d : Int) (s : ByteArray) (i : Int) : Int := if 0 ≤ i ∧ i < s.size then (s[i.toNat]!).toNat else d

def byt (n : Int) : UInt8 := UInt8.ofNat (n % 256).toNat

theorem wrap64_u8 (b : UInt8) : wrap64 (b.toNat : Int) = b.toNat := IntWalk.wrap64_in _ (by have := b.toNat_lt; omega)

theorem conv1 (w : World) (x : Int) : (convert 138 9 (.slice (some ⟨w.heap.size, 0, none⟩) 1 1)).run Try.prog (w.alloc (.cells #[.int .u8 x] 5)) = .ok (.string ⟨#[UInt8.ofNat x.toNat]⟩) (w.alloc (.cells #[.int .u8 x] 5)) := by
  refine run_convert_bytes_arg _ 138 5 Try.underlying138 Try.underlying5 _ 0 1 1 [x] rfl ?_ _ Try.underlying9
  intro i hi
  obtain rfl : i = 0 := by omega
  simp

theorem conv2 (w : World) (x y : Int) : (convert 138 9 (.slice (some ⟨w.heap.size, 0, none⟩) 2 2)).run Try.prog (w.alloc (.cells #[.int .u8 x, .int .u8 y] 5)) = .ok (.string ⟨#[UInt8.ofNat x.toNat, UInt8.ofNat y.toNat]⟩) (w.alloc (.cells #[.int .u8 x, .int .u8 y] 5)) := by
  refine run_convert_bytes_arg _ 138 5 Try.underlying138 Try.underlying5 _ 0 2 2 [x, y] rfl ?_ _ Try.underlying9
  intro i hi
  obtain rfl | rfl : i = 0 ∨ i = 1 := by omega
  all_goals simp

theorem conv4 (w : World) (x y z u : Int) : (convert 138 9 (.slice (some ⟨w.heap.size, 0, none⟩) 4 4)).run Try.prog (w.alloc (.cells #[.int .u8 x, .int .u8 y, .int .u8 z, .int .u8 u] 5)) = .ok (.string ⟨#[UInt8.ofNat x.toNat, UInt8.ofNat y.toNat, UInt8.ofNat z.toNat, UInt8.ofNat u.toNat]⟩) (w.alloc (.cells #[.int .u8 x, .int .u8 y, .int .u8 z, .int .u8 u] 5)) := by
  refine run_convert_bytes_arg _ 138 5 Try.underlying138 Try.underlying5 _ 0 4 4 [x, y, z, u] rfl ?_ _ Try.underlying9
  intro i hi
  obtain rfl | rfl | rfl | rfl : i = 0 ∨ i = 1 ∨ i = 2 ∨ i = 3 := by omega
  all_goals simp

set_option maxHeartbeats 400000 in
theorem isBelow_any (a b : Int) (w : World) :
    Calls Try.prog 98 #[.int .i64 a, .int .i64 b] w fun e w' => e = .returned (.bool (below a b)) ∧ w = w' := by
  by_cases h : 0 ≤ a
  · go_enter Try.func98, Try.ntmps98
    go_wp2
    go_ret
    exact ⟨by simp [below, h], rfl⟩
  · have hb : below a b = false := by simp only [below, h, false_and, decide_false]
    go_enter Try.func98, Try.ntmps98
    go_wp2
    go_ret
    exact ⟨rfl, rfl⟩

set_option maxHeartbeats 400000 in
theorem byteAt_any (s : ByteArray) (i : Int) (w : World) (hs : s.size ≤ maxLen) :
    Calls Try.prog 79 #[.string s, .int .i64 i] w fun e w' => e = .returned (.int .i64 (byteOr (-1) s i)) ∧ w = w' := by
  unfold maxLen at hs
  by_cases h : 0 ≤ i ∧ i < s.size
  · have hb : below i s.size = true := by simp [below, h]
    obtain ⟨h1, h2⟩ := h
    obtain ⟨n, rfl⟩ := Int.eq_ofNat_of_zero_le h1
    go_enter Try.func79, Try.ntmps79
    go_wp2_with (go_at_call 98; refine (isBelow_any _ _ _).mono ?_; rintro e w' ⟨rfl, rfl⟩)
    go_ret
    refine ⟨?_, rfl⟩
    simp [byteOr, h1, h2, getElem!_pos, show n < s.size by omega, wrap64_u8]
  · have hb : below i s.size = false := by simp only [below, h, decide_false]
    have hc : byteOr (-1) s i = -1 := by simp only [byteOr, h, if_false]
    go_enter Try.func79, Try.ntmps79
    go_wp2_with (go_at_call 98; refine (isBelow_any _ _ _).mono ?_; rintro e w' ⟨rfl, rfl⟩)
    go_ret
    exact ⟨by simp [hc], rfl⟩

set_option maxRecDepth 100000 in
set_option maxHeartbeats 400000 in
theorem oneByte_any (a : Int) (w : World) :
    Calls Try.prog 84 #[.int .i64 a] w fun e w' => e = .returned (.string ⟨#[byt a]⟩) ∧ Below w.heap.size w w' := by
  have hk := conv1 w
  go_enter Try.func84, Try.ntmps84
  go_wp2
  go_ret
  exact ⟨rfl, (Below.refl _ _).alloc (Nat.le_refl _) _⟩

set_option maxRecDepth 100000 in
set_option maxHeartbeats 400000 in
theorem twoBytes_any (a b : Int) (w : World) :
    Calls Try.prog 101 #[.int .i64 a, .int .i64 b] w fun e w' => e = .returned (.string ⟨#[byt a, byt b]⟩) ∧ Below w.heap.size w w' := by
  have hk := conv2 w
  go_enter Try.func101, Try.ntmps101
  go_wp2
  go_ret
  exact ⟨rfl, (Below.refl _ _).alloc (Nat.le_refl _) _⟩

set_option maxRecDepth 100000 in
set_option maxHeartbeats 400000 in
theorem fourBytes_any (a b c d : Int) (w : World) :
    Calls Try.prog 83 #[.int .i64 a, .int .i64 b, .int .i64 c, .int .i64 d] w fun e w' => e = .returned (.string ⟨#[byt a, byt b, byt c, byt d]⟩) ∧ Below w.heap.size w w' := by
  have hk := conv4 w
  go_enter Try.func83, Try.ntmps83
  go_wp2
  go_ret
  exact ⟨rfl, (Below.refl _ _).alloc (Nat.le_refl _) _⟩

end Go.Proofs.Ytdjdjkgoelbbdaa

/- Leaf functions of the document's answer: what each call gives. -/
set_option linter.unusedSimpArgs false
set_option linter.unusedVariables false
namespace Go.Proofs.Ytdjdjkgoelbbdaa
open Go.RowKit

theorem Try.infoU8 : (Try.prog.info? 5).map (fun i => (i.zero, i.size, i.bytes)) = some (some (.int .u8 0), 1, 1) := by kernel_rfl

set_option maxHeartbeats 400000 in
theorem at_any (s : ByteArray) (i : Int) (w : World) (hs : s.size ≤ maxLen) :
    Calls Try.prog 73 #[.string s, .int .i64 i] w fun e w' => e = .returned (.int .i64 (byteOr 0 s i)) ∧ w = w' := by
  unfold maxLen at hs
  by_cases h1 : 0 ≤ i
  · obtain ⟨n, rfl⟩ := Int.eq_ofNat_of_zero_le h1
    by_cases h2 : (n : Int) < s.size
    · go_enter Try.func73, Try.ntmps73
      go_wp2
      go_ret
      refine ⟨?_, rfl⟩
      simp [byteOr, h1, h2, getElem!_pos, show n < s.size by omega, wrap64_u8]
    · have hc : byteOr 0 s n = 0 := by simp only [byteOr, h2, and_false, if_false]
      go_enter Try.func73, Try.ntmps73
      go_wp2
      go_ret
      exact ⟨rfl, rfl⟩
  · have hc : byteOr 0 s i = 0 := by simp only [byteOr, h1, false_and, if_false]
    go_enter Try.func73, Try.ntmps73
    go_wp2
    go_ret
    exact ⟨rfl, rfl⟩

/-- The k-th number of a list (kept from the walk's own rules). -/
def el (xs : List Int) (k : Nat) : Int := xs.getD k 0
/-- The first k numbers as bytes in cells. -/
def rowB (xs : List Int) (k : Nat) : List Value := (xs.take k).map fun n => Value.int .u8 (n % 256)

theorem rowB_succ {xs : List Int} {k : Nat} (h : k < xs.length) : rowB xs (k + 1) = rowB xs k ++ [.int .u8 (el xs k % 256)] := by
  unfold rowB el
  rw [List.take_succ_eq_append_getElem h, List.map_append, show xs.getD k 0 = xs[k] from by simp [h]]
  rfl

theorem str_nb (xs : List Int) : strOfNums (xs.map (· % 256)) = ⟨(xs.map byt).toArray⟩ := by
  simp [strOfNums, byt, Function.comp_def]

theorem conv_own {w wr : World} {B : Nat} {v : Value} {xs : List Int} (h : wr.ownsRow B 5 1 v xs.length (rowB xs xs.length)) :
    (convert 138 9 v).run Try.prog wr = .ok (.string ⟨(xs.map byt).toArray⟩) wr := by
  rcases h.2 with ⟨rfl, h0⟩ | ⟨g, cap, cur, rfl, _, hg, _, _, hs, ht⟩
  · have : xs = [] := List.eq_nil_of_length_eq_zero h0
    subst this
    exact run_convert_bytes_nil _ 138 5 Try.underlying138 Try.underlying5 _ _ _ Try.underlying9
  · rw [← str_nb]
    refine run_convert_bytes_arg _ 138 5 Try.underlying138 Try.underlying5 _ 0 _ _ _ (by simp) ?_ _ Try.underlying9
    intro i hi
    have hc := h.cells (g := g) rfl i (.int .u8 ((xs.map (· % 256)).getD i 0)) (by simp [rowB, hi])
    rw [Addr.add_lit] at hc
    simpa using hc

set_option maxHeartbeats 800000 in
theorem bytes_any (b off cap : Nat) (xs : List Int) (w : World) (hb : b < w.heap.size) (hl : xs.length ≤ 1000)
    (hc : ∀ i, i < xs.length → w.cell? ⟨b, off + i, none⟩ = some (.int .i64 (el xs i))) :
    Calls Try.prog 72 #[.slice (some ⟨b, off, none⟩) xs.length cap] w fun e w' => e = .returned (.string ⟨(xs.map byt).toArray⟩) ∧ Below w.heap.size w w' := by
  obtain ⟨i0, hi, hz0, hz1, hz2⟩ := info_parts Try.infoU8
  obtain ⟨r, hr⟩ : ∃ r : ByteArray, r = ⟨(xs.map byt).toArray⟩ := ⟨_, rfl⟩
  rw [← hr]
  have HR : Hid (r = ⟨(xs.map byt).toArray⟩) := hr
  clear hr
  go_enter Try.func72, Try.ntmps72
  go_wp2
  go_loopw [3, 4] (fun v i wr => ∃ k : Nat, k ≤ xs.length ∧ i = .int .i64 k ∧ wr.ownsRow w.heap.size 5 1 v k (rowB xs k) ∧ Below w.heap.size w wr)
    (fun _ i _ => xs.length - (intOf i).toNat)
  case atStart => exact ⟨0, Nat.zero_le _, rfl, World.ownsRow_nil _ _ _ _, Below.refl _ _⟩
  case round =>
    obtain ⟨k, hk, rfl, hown, hbel⟩ := hrel
    by_cases hlt : k < xs.length
    · have hcx : wr.cell? ⟨b, off + k, none⟩ = some (.int .i64 (el xs k)) := (hbel.cell hb).trans (hc k hlt)
      have hz := hbel.size
      go_wp2_with (at_builtin; refine wpList_append_own _ rfl _ _ 138 rfl w.heap.size 5 i0 (.int .u8 0) 1 1 Try.underlying138 hi hz0 hz1 hz2 rfl (by decide) _ _ _ rfl (hown.alloc _) ⟨wr.heap.size, 0, none⟩ 1 1 [.int .u8 (el xs k % 256)] rfl rfl (cell_one_new _ _ _) ?c2 ?c3 ?c4 ?c5 ?_)
      case c2 => intro u hu; simp at hu; subst hu; rfl
      case c3 => unfold maxLen; omega
      case c4 => omega
      case c5 => simp; omega
      intro v' w1 hown' hgrow _
      rw [← rowB_succ hlt] at hown'
      have hb1 := (hbel.alloc hz (Obj.cells #[.int .u8 (el xs k % 256)] 5)).grown hgrow (by simp; omega) (fun g hg => (hown.lt g hg).1)
      clear hgrow hown hcx
      go_wp2
      go_roundw
      case rel => exact ⟨k + 1, by omega, by go_num, hown', hb1⟩
      case measure => simp [intOf]; omega
    · obtain rfl : k = xs.length := by omega
      have hcv := conv_own (w := w) hown
      rw [← HR.out] at hcv
      go_wp2
      go_ret
      exact ⟨rfl, hbel⟩

end Go.Proofs.Ytdjdjkgoelbbdaa

/- Hints and programs as plain data; how they lie in memory. -/
set_option linter.unusedSimpArgs false
set_option linter.unusedVariables false
namespace Go.Proofs.Ytdjdjkgoelbbdaa
open Go.RowKit

/-! ### Plain data -/

structure PairD where
  reg : Int
  place : Int

structure PingD where
  src : Int
  pairs : List PairD

def pz : PairD := ⟨0, 0⟩
def hz : PingD := ⟨0, []⟩

def preg (ps : List PairD) (k : Nat) : Int := (ps.getD k pz).reg
def pplace (ps : List PairD) (k : Nat) : Int := (ps.getD k pz).place
def hsrc (h : List PingD) (k : Nat) : Int := (h.getD k hz).src
def hpairs (h : List PingD) (k : Nat) : List PairD := (h.getD k hz).pairs

/-! ### Well made hints -/

def goodPairs : Int → List PairD → Bool
  | _, [] => true
  | last, p :: r => below p.reg 8 && below p.place 16 && decide (last < p.place) && goodPairs p.place r

def goodPing (x : PingD) : Bool := below x.src 6 && decide (x.pairs.length ≤ 16) && goodPairs (-1) x.pairs

def goodPings (h : List PingD) : Bool := h.all goodPing

def goodHint (h : List PingD) : Bool := decide (1 ≤ h.length ∧ h.length ≤ 6) && goodPings h

def gFrom (ps : List PairD) (last : Int) (k : Nat) : Bool := goodPairs last (ps.drop k)

theorem drop_getD {α : Type} (l : List α) (d : α) (k : Nat) (h : k < l.length) : l.drop k = l.getD k d :: l.drop (k + 1) := by
  rw [List.drop_eq_getElem_cons h]; simp [h]

theorem gFrom_end {ps : List PairD} {last : Int} {k : Nat} (h : ps.length ≤ k) : gFrom ps last k = true := by
  unfold gFrom; rw [List.drop_of_length_le h]; rfl

theorem gFrom_step {ps : List PairD} {last : Int} {k : Nat} (h : k < ps.length) :
    gFrom ps last k = (below (preg ps k) 8 && below (pplace ps k) 16 && decide (last < pplace ps k) && gFrom ps (pplace ps k) (k + 1)) := by
  unfold gFrom; rw [drop_getD ps pz k h]; rfl

def gpFrom (h : List PingD) (k : Nat) : Bool := goodPings (h.drop k)

theorem gpFrom_end {h : List PingD} {k : Nat} (hk : h.length ≤ k) : gpFrom h k = true := by
  unfold gpFrom; rw [List.drop_of_length_le hk]; rfl

theorem gpFrom_step {h : List PingD} {k : Nat} (hk : k < h.length) : gpFrom h k = (goodPing ⟨hsrc h k, hpairs h k⟩ && gpFrom h (k + 1)) := by
  unfold gpFrom; rw [drop_getD h hz k hk]; rfl

/-! ### How they lie in memory -/

/-- The slice value v reads as the pairs ps. -/
def RdPairs (w : World) (v : Value) (ps : List PairD) : Prop :=
  ∃ ao cap, v = .slice ao ps.length cap ∧ ps.length ≤ 9223372036854775807 ∧ ∀ i, i < ps.length → ∃ b off, ao = some ⟨b, off, none⟩ ∧
    w.cell? ⟨b, off + i * 2, none⟩ = some (.int .i64 (preg ps i)) ∧ w.cell? ⟨b, off + i * 2 + 1, none⟩ = some (.int .i64 (pplace ps i))

/-- The slice value v reads as the hint's blocks h. -/
def RdHint (w : World) (v : Value) (h : List PingD) : Prop :=
  ∃ ao cap, v = .slice ao h.length cap ∧ h.length ≤ 9223372036854775807 ∧ ∀ i, i < h.length → ∃ b off sv, ao = some ⟨b, off, none⟩ ∧
    w.cell? ⟨b, off + i * 2, none⟩ = some (.int .i64 (hsrc h i)) ∧ w.cell? ⟨b, off + i * 2 + 1, none⟩ = some sv ∧ RdPairs w sv (hpairs h i)

theorem cell_keep {w w' : World} (hb : Below w.heap.size w w') {a : Addr} {v : Value} (h : w.cell? a = some v) : w'.cell? a = some v :=
  (hb.cell (World.block_lt_of_cell? w a h)).trans h

theorem RdPairs.keep {w w' : World} {v : Value} {ps : List PairD} (h : RdPairs w v ps) (hb : Below w.heap.size w w') : RdPairs w' v ps := by
  obtain ⟨ao, cap, rfl, hl, hc⟩ := h
  exact ⟨ao, cap, rfl, hl, fun i hi => let ⟨b, off, e, h1, h2⟩ := hc i hi; ⟨b, off, e, cell_keep hb h1, cell_keep hb h2⟩⟩

theorem RdHint.keep {w w' : World} {v : Value} {h : List PingD} (hr : RdHint w v h) (hb : Below w.heap.size w w') : RdHint w' v h := by
  obtain ⟨ao, cap, rfl, hl, hc⟩ := hr
  exact ⟨ao, cap, rfl, hl, fun i hi => let ⟨b, off, sv, e, h1, h2, h3⟩ := hc i hi; ⟨b, off, sv, e, cell_keep hb h1, cell_keep hb h2, h3.keep hb⟩⟩

/-- A frame that opened with one new block. -/
theorem Below.under {w w' : World} {o : Obj} (h : Below (w.heap.size + 1) (w.alloc o) w') : Below w.heap.size w w' :=
  ((Below.refl w.heap.size w).alloc (Nat.le_refl _) o).trans (h.mono (by omega))

/-! ### A region whose order is open, its calls making memory: any world that keeps what lay below B -/

structure Past (B : Nat) (w : World) where
  wd : World
  ok : Below B w wd

theorem wp_region_past {P : Program} {id : Nat} {Q : Exit → Act → World → Prop} {a : Act} {w : World} {l : List Oper} (B : Nat) (hm : P.follows .mixedOrders = true) (hB : Region.lexB .any l.toArray = true)
    (h : wpQuiet P l.toArray (fun w' => ∃ x : Past B w, w' = x.wd) (fun a' => ∀ w', (∃ x : Past B w, w' = x.wd) → Q .normal a' w') l a) : (Code.region id l.toArray true).wp P Q a w :=
  wp_region_quiet (C := fun w' => ∃ x : Past B w, w' = x.wd) hm hB ⟨⟨w.drew, (Below.refl B w).drew⟩, rfl⟩ (by simpa using h)

theorem Calls.past_of {P : Program} {f : FuncId} {args : Array Value} {w : World} {B : Nat} {x : Past B w} {v : Value} (hB : B ≤ w.heap.size)
    (h : Calls P f args x.wd fun e w' => e = .returned v ∧ Below x.wd.heap.size x.wd w') : Calls P f args x.wd fun e w'' => e = .returned v ∧ ∃ y : Past B w, w'' = y.wd :=
  h.mono fun _ w' ⟨he, hb⟩ => ⟨he, ⟨w', x.ok.trans (hb.mono (Nat.le_trans hB x.ok.size))⟩, rfl⟩

theorem Past.any (B : Nat) (w : World) : Nonempty (Past B w) := ⟨⟨w, Below.refl B w⟩⟩

theorem Past.cell {w : World} (x : Past w.heap.size w) {a : Addr} {v : Value} (h : w.cell? a = some v) : x.wd.cell? a = some v := cell_keep x.ok h

theorem owns_slice {w : World} {base : Nat} {e : TypeId} {size : Nat} {v : Value} {n : Nat} {xs : List Value} (h : w.ownsRow base e size v n xs) : ∃ ao cap, v = .slice ao n cap := by
  rcases h.2 with ⟨rfl, rfl⟩ | ⟨g, cap, cur, rfl, _⟩
  · exact ⟨_, _, rfl⟩
  · exact ⟨_, _, rfl⟩

theorem owns_base {w : World} {base base' : Nat} {e : TypeId} {size : Nat} {v : Value} {n : Nat} {xs : List Value} (h : w.ownsRow base e size v n xs) (hb : base' ≤ base) : w.ownsRow base' e size v n xs := by
  refine ⟨h.1, ?_⟩
  rcases h.2 with h2 | ⟨g, cap, cur, hv, hg, r⟩
  · exact .inl h2
  · exact .inr ⟨g, cap, cur, hv, Nat.le_trans hb hg, r⟩

theorem cell_set {w : World} {a : Addr} {u v : Value} (h : w.cell? a = some u) : (w.setCell a v).cell? a = some v := World.cell?_setCell_same _ _ _ h

theorem cell_unset {w : World} {a b : Addr} {u v : Value} (hn : a ≠ b) (h : w.cell? b = some u) : (w.setCell a v).cell? b = some u := (World.cell?_setCell_other _ _ _ _ hn).trans h

/-! ### Texts -/

def pairsText (ps : List PairD) : List UInt8 := ps.flatMap fun p => [byt p.reg, byt p.place]

def pingText (x : PingD) : List UInt8 := [byt x.src, byt x.pairs.length] ++ pairsText x.pairs

def hintText (h : List PingD) : List UInt8 := [84, 72, byt h.length] ++ h.flatMap pingText

/-- A text out of bytes. -/
def str (l : List UInt8) : ByteArray := ⟨l.toArray⟩

theorem str_append (a b : List UInt8) : str a ++ str b = str (a ++ b) := by
  apply ByteArray.ext
  simp [str]

/-- The text of a pairing, as far as its first k pairs. -/
def pingTo (src : Int) (ps : List PairD) (k : Nat) : ByteArray := str ([byt src, byt ps.length] ++ pairsText (ps.take k))

theorem take_getD {α : Type} (l : List α) (d : α) (k : Nat) (h : k < l.length) : l.take (k + 1) = l.take k ++ [l.getD k d] := by
  rw [List.take_succ_eq_append_getElem h]; simp [h]

theorem pingTo_step {src : Int} {ps : List PairD} {k : Nat} (h : k < ps.length) : pingTo src ps (k + 1) = pingTo src ps k ++ ⟨#[byt (preg ps k), byt (pplace ps k)]⟩ := by
  show _ = str _ ++ str [_, _]
  rw [str_append]
  simp [pingTo, pairsText, take_getD ps pz k h, preg, pplace]

theorem pingTo_end {src : Int} {ps : List PairD} {k : Nat} (h : ps.length ≤ k) : pingTo src ps k = str (pingText ⟨src, ps⟩) := by
  simp [pingTo, pingText, List.take_of_length_le h]

/-- The text of a hint, as far as its first k blocks. -/
def hintTo (h : List PingD) (k : Nat) : ByteArray := str ([84, 72, byt h.length] ++ (h.take k).flatMap pingText)

theorem hintTo_step {h : List PingD} {k : Nat} (hk : k < h.length) : hintTo h (k + 1) = hintTo h k ++ str (pingText ⟨hsrc h k, hpairs h k⟩) := by
  unfold hintTo
  rw [str_append, take_getD h hz k hk, List.flatMap_append, List.append_assoc]
  simp [hsrc, hpairs]

theorem hintTo_end {h : List PingD} {k : Nat} (hk : h.length ≤ k) : hintTo h k = str (hintText h) := by
  simp [hintTo, hintText, List.take_of_length_le hk]

theorem pairsText_length (ps : List PairD) : (pairsText ps).length = 2 * ps.length := by
  induction ps with
  | nil => rfl
  | cons p r ih => simp only [pairsText, List.flatMap_cons, List.length_append, List.length_cons, List.length_nil] at *; omega

theorem pingTo_size (src : Int) (ps : List PairD) (k : Nat) (h : k ≤ ps.length) : (pingTo src ps k).size = 2 + 2 * k := by
  simp [pingTo, str, ByteArray.size, pairsText_length, List.length_take, Nat.min_eq_left h]
  omega

theorem goodHint_len {h : List PingD} (hg : goodHint h = true) : 1 ≤ h.length ∧ h.length ≤ 6 := by
  simp [goodHint] at hg; omega

theorem goodHint_ping {h : List PingD} (hg : goodHint h = true) (x : PingD) (hx : x ∈ h) : goodPing x = true := by
  simp [goodHint, goodPings] at hg; exact hg.2 x hx

theorem getD_mem' {α : Type} {l : List α} {d : α} {k : Nat} (h : k < l.length) : l.getD k d ∈ l := by
  simp [h]

theorem goodHint_pairs {h : List PingD} (hg : goodHint h = true) {k : Nat} (hk : k < h.length) : (hpairs h k).length ≤ 16 := by
  have := goodHint_ping hg (h.getD k hz) (getD_mem' hk)
  simp [goodPing] at this
  exact this.1.2

theorem pingText_length (x : PingD) : (pingText x).length = 2 + 2 * x.pairs.length := by
  simp [pingText, pairsText_length]; omega

theorem flat_le {l : List PingD} (h : ∀ x ∈ l, x.pairs.length ≤ 16) : (l.flatMap pingText).length ≤ 34 * l.length := by
  induction l with
  | nil => simp
  | cons x r ih =>
    have h1 := h x (by simp)
    have h2 := ih (fun y hy => h y (by simp [hy]))
    simp only [List.flatMap_cons, List.length_append, pingText_length, List.length_cons]
    omega

theorem hintTo_size {h : List PingD} (hg : goodHint h = true) (k : Nat) : (hintTo h k).size ≤ 210 := by
  have h1 := goodHint_len hg
  have h2 := flat_le (l := h.take k) (fun x hx => by
    have := goodHint_ping hg x (List.mem_of_mem_take hx)
    simp [goodPing] at this
    exact this.1.2)
  have h3 : (h.take k).length ≤ 6 := Nat.le_trans (List.length_take_le' _ _) h1.2
  have e : (hintTo h k).size = 3 + ((h.take k).flatMap pingText).length := by
    simp [hintTo, str, ByteArray.size]; omega
  omega

end Go.Proofs.Ytdjdjkgoelbbdaa
