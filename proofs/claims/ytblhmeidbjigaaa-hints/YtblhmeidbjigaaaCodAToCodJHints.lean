/- Leaf functions of the codec: what each call gives. -/
import Derived.Test.YtblhmeidbjigaaaRows
import Derived.WalkKit
import Derived.WalkSpells
import Derived.WalkLawsBesides
import Derived.Laws.BytesArg
import Derived.Deep.QuietTactic
import Derived.BigQuiet
import Derived.Deep.RegionHeld3

set_option linter.unusedSimpArgs false
set_option linter.unusedVariables false
namespace Go.Proofs.Ytblhmeidbjigaaa
open Go.RowKit

/-- isBelow -/
def below (a b : Int) : Bool := decide (0 ≤ a ∧ a < b)

/-- byteAt -/
def byteOr (d : Int) (s : ByteArray) (i : Int) : Int := if 0 ≤ i ∧ i < s.size then (s[i.toNat]!).toNat else d

def byt (n : Int) : UInt8 := UInt8.ofNat (n % 256).toNat

theorem wrap64_u8 (b : UInt8) : wrap64 (b.toNat : Int) = b.toNat := IntWalk.wrap64_in _ (by have := b.toNat_lt; omega)

theorem conv1 (w : World) (x : Int) : (convert 127 9 (.slice (some ⟨w.heap.size, 0, none⟩) 1 1)).run Try.prog (w.alloc (.cells #[.int .u8 x] 5)) = .ok (.string ⟨#[UInt8.ofNat x.toNat]⟩) (w.alloc (.cells #[.int .u8 x] 5)) := by
  refine run_convert_bytes_arg _ 127 5 Try.underlying127 Try.underlying5 _ 0 1 1 [x] rfl ?_ _ Try.underlying9
  intro i hi
  obtain rfl : i = 0 := by omega
  simp

theorem conv2 (w : World) (x y : Int) : (convert 127 9 (.slice (some ⟨w.heap.size, 0, none⟩) 2 2)).run Try.prog (w.alloc (.cells #[.int .u8 x, .int .u8 y] 5)) = .ok (.string ⟨#[UInt8.ofNat x.toNat, UInt8.ofNat y.toNat]⟩) (w.alloc (.cells #[.int .u8 x, .int .u8 y] 5)) := by
  refine run_convert_bytes_arg _ 127 5 Try.underlying127 Try.underlying5 _ 0 2 2 [x, y] rfl ?_ _ Try.underlying9
  intro i hi
  obtain rfl | rfl : i = 0 ∨ i = 1 := by omega
  all_goals simp

set_option maxHeartbeats 400000 in
theorem isBelow_any (a b : Int) (w : World) :
    Calls Try.prog 87 #[.int .i64 a, .int .i64 b] w fun e w' => e = .returned (.bool (below a b)) ∧ w = w' := by
  by_cases h : 0 ≤ a
  · go_enter Try.func87, Try.ntmps87
    go_wp2
    go_ret
    exact ⟨by simp [below, h], rfl⟩
  · have hb : below a b = false := by simp only [below, h, false_and, decide_false]
    go_enter Try.func87, Try.ntmps87
    go_wp2
    go_ret
    exact ⟨rfl, rfl⟩

set_option maxHeartbeats 400000 in
theorem byteAt_any (s : ByteArray) (i : Int) (w : World) (hs : s.size ≤ maxLen) :
    Calls Try.prog 69 #[.string s, .int .i64 i] w fun e w' => e = .returned (.int .i64 (byteOr (-1) s i)) ∧ w = w' := by
  unfold maxLen at hs
  by_cases h : 0 ≤ i ∧ i < s.size
  · have hb : below i s.size = true := by simp [below, h]
    obtain ⟨h1, h2⟩ := h
    obtain ⟨n, rfl⟩ := Int.eq_ofNat_of_zero_le h1
    go_enter Try.func69, Try.ntmps69
    go_wp2_with (go_at_call 87; refine (isBelow_any _ _ _).mono ?_; rintro e w' ⟨rfl, rfl⟩)
    go_ret
    refine ⟨?_, rfl⟩
    simp [byteOr, h1, h2, getElem!_pos, show n < s.size by omega, wrap64_u8]
  · have hb : below i s.size = false := by simp only [below, h, decide_false]
    have hc : byteOr (-1) s i = -1 := by simp only [byteOr, h, if_false]
    go_enter Try.func69, Try.ntmps69
    go_wp2_with (go_at_call 87; refine (isBelow_any _ _ _).mono ?_; rintro e w' ⟨rfl, rfl⟩)
    go_ret
    exact ⟨by simp [hc], rfl⟩

set_option maxRecDepth 100000 in
set_option maxHeartbeats 400000 in
theorem oneByte_any (a : Int) (w : World) :
    Calls Try.prog 74 #[.int .i64 a] w fun e w' => e = .returned (.string ⟨#[byt a]⟩) ∧ Below w.heap.size w w' := by
  have hk := conv1 w
  go_enter Try.func74, Try.ntmps74
  go_wp2
  go_ret
  exact ⟨rfl, (Below.refl _ _).alloc (Nat.le_refl _) _⟩

set_option maxRecDepth 100000 in
set_option maxHeartbeats 400000 in
theorem twoBytes_any (a b : Int) (w : World) :
    Calls Try.prog 90 #[.int .i64 a, .int .i64 b] w fun e w' => e = .returned (.string ⟨#[byt a, byt b]⟩) ∧ Below w.heap.size w w' := by
  have hk := conv2 w
  go_enter Try.func90, Try.ntmps90
  go_wp2
  go_ret
  exact ⟨rfl, (Below.refl _ _).alloc (Nat.le_refl _) _⟩

end Go.Proofs.Ytblhmeidbjigaaa

/- Leaf functions of the document's answer: what each call gives. -/
set_option linter.unusedSimpArgs false
set_option linter.unusedVariables false
namespace Go.Proofs.Ytblhmeidbjigaaa
open Go.RowKit

theorem Try.infoU8 : (Try.prog.info? 5).map (fun i => (i.zero, i.size, i.bytes)) = some (some (.int .u8 0), 1, 1) := by kernel_rfl

set_option maxHeartbeats 400000 in
theorem at_any (s : ByteArray) (i : Int) (w : World) (hs : s.size ≤ maxLen) :
    Calls Try.prog 63 #[.string s, .int .i64 i] w fun e w' => e = .returned (.int .i64 (byteOr 0 s i)) ∧ w = w' := by
  unfold maxLen at hs
  by_cases h1 : 0 ≤ i
  · obtain ⟨n, rfl⟩ := Int.eq_ofNat_of_zero_le h1
    by_cases h2 : (n : Int) < s.size
    · go_enter Try.func63, Try.ntmps63
      go_wp2
      go_ret
      refine ⟨?_, rfl⟩
      simp [byteOr, h1, h2, getElem!_pos, show n < s.size by omega, wrap64_u8]
    · have hc : byteOr 0 s n = 0 := by simp only [byteOr, h2, and_false, if_false]
      go_enter Try.func63, Try.ntmps63
      go_wp2
      go_ret
      exact ⟨rfl, rfl⟩
  · have hc : byteOr 0 s i = 0 := by simp only [byteOr, h1, false_and, if_false]
    go_enter Try.func63, Try.ntmps63
    go_wp2
    go_ret
    exact ⟨rfl, rfl⟩

/-- The k-th number of a list (kept from the walk's own rules). -/
def el (xs : List Int) (k : Nat) : Int := xs.getD k 0
/-- The first k numbers as bytes in cells. -/
def rowB (xs : List Int) (k : Nat) : List Value := (xs.take k).map fun n => Value.int .u8 (n % 256)

theorem rowB_succ {xs : List Int} {k : Nat} (h : k < xs.length) : rowB xs (k + 1) = rowB xs k ++ [.int .u8 (el xs k % 256)] := by
  unfold rowB el
  rw [List.take_succ_eq_append_getElem h, List.map_append, show xs.getD k 0 = xs[k] from by simp [h]]
  rfl

theorem str_nb (xs : List Int) : strOfNums (xs.map (· % 256)) = ⟨(xs.map byt).toArray⟩ := by
  simp [strOfNums, byt, Function.comp_def]

theorem conv_own {w wr : World} {B : Nat} {v : Value} {xs : List Int} (h : wr.ownsRow B 5 1 v xs.length (rowB xs xs.length)) :
    (convert 127 9 v).run Try.prog wr = .ok (.string ⟨(xs.map byt).toArray⟩) wr := by
  rcases h.2 with ⟨rfl, h0⟩ | ⟨g, cap, cur, rfl, _, hg, _, _, hs, ht⟩
  · have : xs = [] := List.eq_nil_of_length_eq_zero h0
    subst this
    exact run_convert_bytes_nil _ 127 5 Try.underlying127 Try.underlying5 _ _ _ Try.underlying9
  · rw [← str_nb]
    refine run_convert_bytes_arg _ 127 5 Try.underlying127 Try.underlying5 _ 0 _ _ _ (by simp) ?_ _ Try.underlying9
    intro i hi
    have hc := h.cells (g := g) rfl i (.int .u8 ((xs.map (· % 256)).getD i 0)) (by simp [rowB, hi])
    rw [Addr.add_lit] at hc
    simpa using hc

set_option maxHeartbeats 800000 in
theorem bytes_any (b off cap : Nat) (xs : List Int) (w : World) (hb : b < w.heap.size) (hl : xs.length ≤ 1000)
    (hc : ∀ i, i < xs.length → w.cell? ⟨b, off + i, none⟩ = some (.int .i64 (el xs i))) :
    Calls Try.prog 62 #[.slice (some ⟨b, off, none⟩) xs.length cap] w fun e w' => e = .returned (.string ⟨(xs.map byt).toArray⟩) ∧ Below w.heap.size w w' := by
  obtain ⟨i0, hi, hz0, hz1, hz2⟩ := info_parts Try.infoU8
  obtain ⟨r, hr⟩ : ∃ r : ByteArray, r = ⟨(xs.map byt).toArray⟩ := ⟨_, rfl⟩
  rw [← hr]
  have HR : Hid (r = ⟨(xs.map byt).toArray⟩) := hr
  clear hr
  go_enter Try.func62, Try.ntmps62
  go_wp2
  go_loopw [3, 4] (fun v i wr => ∃ k : Nat, k ≤ xs.length ∧ i = .int .i64 k ∧ wr.ownsRow w.heap.size 5 1 v k (rowB xs k) ∧ Below w.heap.size w wr)
    (fun _ i _ => xs.length - (intOf i).toNat)
  case atStart => exact ⟨0, Nat.zero_le _, rfl, World.ownsRow_nil _ _ _ _, Below.refl _ _⟩
  case round =>
    obtain ⟨k, hk, rfl, hown, hbel⟩ := hrel
    by_cases hlt : k < xs.length
    · have hcx : wr.cell? ⟨b, off + k, none⟩ = some (.int .i64 (el xs k)) := (hbel.cell hb).trans (hc k hlt)
      have hz := hbel.size
      go_wp2_with (at_builtin; refine wpList_append_own _ rfl _ _ 127 rfl w.heap.size 5 i0 (.int .u8 0) 1 1 Try.underlying127 hi hz0 hz1 hz2 rfl (by decide) _ _ _ rfl (hown.alloc _) ⟨wr.heap.size, 0, none⟩ 1 1 [.int .u8 (el xs k % 256)] rfl rfl (cell_one_new _ _ _) ?c2 ?c3 ?c4 ?c5 ?_)
      case c2 => intro u hu; simp at hu; subst hu; rfl
      case c3 => unfold maxLen; omega
      case c4 => omega
      case c5 => simp; omega
      intro v' w1 hown' hgrow _
      rw [← rowB_succ hlt] at hown'
      have hb1 := (hbel.alloc hz (Obj.cells #[.int .u8 (el xs k % 256)] 5)).grown hgrow (by simp; omega) (fun g hg => (hown.lt g hg).1)
      clear hgrow hown hcx
      go_wp2
      go_roundw
      case rel => exact ⟨k + 1, by omega, by go_num, hown', hb1⟩
      case measure => simp [intOf]; omega
    · obtain rfl : k = xs.length := by omega
      have hcv := conv_own (w := w) hown
      rw [← HR.out] at hcv
      go_wp2
      go_ret
      exact ⟨rfl, hbel⟩

end Go.Proofs.Ytblhmeidbjigaaa

/- Hints and programs as plain data; how they lie in memory. -/
set_option linter.unusedSimpArgs false
set_option linter.unusedVariables false
namespace Go.Proofs.Ytblhmeidbjigaaa
open Go.RowKit

/-! ### Plain data -/

structure PairD where
  reg : Int
  place : Int

structure PingD where
  src : Int
  pairs : List PairD

def pz : PairD := ⟨0, 0⟩
def hz : PingD := ⟨0, []⟩

def preg (ps : List PairD) (k : Nat) : Int := (ps.getD k pz).reg
def pplace (ps : List PairD) (k : Nat) : Int := (ps.getD k pz).place
def hsrc (h : List PingD) (k : Nat) : Int := (h.getD k hz).src
def hpairs (h : List PingD) (k : Nat) : List PairD := (h.getD k hz).pairs

/-! ### Well made hints -/

def goodPairs : Int → List PairD → Bool
  | _, [] => true
  | last, p :: r => below p.reg 8 && below p.place 16 && decide (last < p.place) && goodPairs p.place r

def goodPing (x : PingD) : Bool := below x.src 6 && decide (x.pairs.length ≤ 16) && goodPairs (-1) x.pairs

def goodPings (h : List PingD) : Bool := h.all goodPing

def goodHint (h : List PingD) : Bool := decide (1 ≤ h.length ∧ h.length ≤ 6) && goodPings h

def gFrom (ps : List PairD) (last : Int) (k : Nat) : Bool := goodPairs last (ps.drop k)

theorem drop_getD {α : Type} (l : List α) (d : α) (k : Nat) (h : k < l.length) : l.drop k = l.getD k d :: l.drop (k + 1) := by
  rw [List.drop_eq_getElem_cons h]; simp [h]

theorem gFrom_end {ps : List PairD} {last : Int} {k : Nat} (h : ps.length ≤ k) : gFrom ps last k = true := by
  unfold gFrom; rw [List.drop_of_length_le h]; rfl

theorem gFrom_step {ps : List PairD} {last : Int} {k : Nat} (h : k < ps.length) :
    gFrom ps last k = (below (preg ps k) 8 && below (pplace ps k) 16 && decide (last < pplace ps k) && gFrom ps (pplace ps k) (k + 1)) := by
  unfold gFrom; rw [drop_getD ps pz k h]; rfl

def gpFrom (h : List PingD) (k : Nat) : Bool := goodPings (h.drop k)

theorem gpFrom_end {h : List PingD} {k : Nat} (hk : h.length ≤ k) : gpFrom h k = true := by
  unfold gpFrom; rw [List.drop_of_length_le hk]; rfl

theorem gpFrom_step {h : List PingD} {k : Nat} (hk : k < h.length) : gpFrom h k = (goodPing ⟨hsrc h k, hpairs h k⟩ && gpFrom h (k + 1)) := by
  unfold gpFrom; rw [drop_getD h hz k hk]; rfl

/-! ### How they lie in memory -/

/-- The slice value v reads as the pairs ps. -/
def RdPairs (w : World) (v : Value) (ps : List PairD) : Prop :=
  ∃ ao cap, v = .slice ao ps.length cap ∧ ps.length ≤ 9223372036854775807 ∧ ∀ i, i < ps.length → ∃ b off, ao = some ⟨b, off, none⟩ ∧
    w.cell? ⟨b, off + i * 2, none⟩ = some (.int .i64 (preg ps i)) ∧ w.cell? ⟨b, off + i * 2 + 1, none⟩ = some (.int .i64 (pplace ps i))

/-- The slice value v reads as the hint's blocks h. -/
def RdHint (w : World) (v : Value) (h : List PingD) : Prop :=
  ∃ ao cap, v = .slice ao h.length cap ∧ h.length ≤ 9223372036854775807 ∧ ∀ i, i < h.length → ∃ b off sv, ao = some ⟨b, off, none⟩ ∧
    w.cell? ⟨b, off + i * 2, none⟩ = some (.int .i64 (hsrc h i)) ∧ w.cell? ⟨b, off + i * 2 + 1, none⟩ = some sv ∧ RdPairs w sv (hpairs h i)

theorem cell_keep {w w' : World} (hb : Below w.heap.size w w') {a : Addr} {v : Value} (h : w.cell? a = some v) : w'.cell? a = some v :=
  (hb.cell (World.block_lt_of_cell? w a h)).trans h

theorem RdPairs.keep {w w' : World} {v : Value} {ps : List PairD} (h : RdPairs w v ps) (hb : Below w.heap.size w w') : RdPairs w' v ps := by
  obtain ⟨ao, cap, rfl, hl, hc⟩ := h
  exact ⟨ao, cap, rfl, hl, fun i hi => let ⟨b, off, e, h1, h2⟩ := hc i hi; ⟨b, off, e, cell_keep hb h1, cell_keep hb h2⟩⟩

theorem RdHint.keep {w w' : World} {v : Value} {h : List PingD} (hr : RdHint w v h) (hb : Below w.heap.size w w') : RdHint w' v h := by
  obtain ⟨ao, cap, rfl, hl, hc⟩ := hr
  exact ⟨ao, cap, rfl, hl, fun i hi => let ⟨b, off, sv, e, h1, h2, h3⟩ := hc i hi; ⟨b, off, sv, e, cell_keep hb h1, cell_keep hb h2, h3.keep hb⟩⟩

/-- A frame that opened with one new block. -/
theorem Below.under {w w' : World} {o : Obj} (h : Below (w.heap.size + 1) (w.alloc o) w') : Below w.heap.size w w' :=
  ((Below.refl w.heap.size w).alloc (Nat.le_refl _) o).trans (h.mono (by omega))

/-! ### A region whose order is open, its calls making memory: any world that keeps what lay below B -/

structure Past (B : Nat) (w : World) where
  wd : World
  ok : Below B w wd

theorem wp_region_past {P : Program} {id : Nat} {Q : Exit → Act → World → Prop} {a : Act} {w : World} {l : List Oper} (B : Nat) (hm : P.follows .mixedOrders = true) (hB : Region.lexB .any l.toArray = true)
    (h : wpQuiet P l.toArray (fun w' => ∃ x : Past B w, w' = x.wd) (fun a' => ∀ w', (∃ x : Past B w, w' = x.wd) → Q .normal a' w') l a) : (Code.region id l.toArray true).wp P Q a w :=
  wp_region_quiet (C := fun w' => ∃ x : Past B w, w' = x.wd) hm hB ⟨⟨w.drew, (Below.refl B w).drew⟩, rfl⟩ (by simpa using h)

theorem Calls.past_of {P : Program} {f : FuncId} {args : Array Value} {w : World} {B : Nat} {x : Past B w} {v : Value} (hB : B ≤ w.heap.size)
    (h : Calls P f args x.wd fun e w' => e = .returned v ∧ Below x.wd.heap.size x.wd w') : Calls P f args x.wd fun e w'' => e = .returned v ∧ ∃ y : Past B w, w'' = y.wd :=
  h.mono fun _ w' ⟨he, hb⟩ => ⟨he, ⟨w', x.ok.trans (hb.mono (Nat.le_trans hB x.ok.size))⟩, rfl⟩

theorem Past.any (B : Nat) (w : World) : Nonempty (Past B w) := ⟨⟨w, Below.refl B w⟩⟩

theorem Past.cell {w : World} (x : Past w.heap.size w) {a : Addr} {v : Value} (h : w.cell? a = some v) : x.wd.cell? a = some v := cell_keep x.ok h

theorem owns_slice {w : World} {base : Nat} {e : TypeId} {size : Nat} {v : Value} {n : Nat} {xs : List Value} (h : w.ownsRow base e size v n xs) : ∃ ao cap, v = .slice ao n cap := by
  rcases h.2 with ⟨rfl, rfl⟩ | ⟨g, cap, cur, rfl, _⟩
  · exact ⟨_, _, rfl⟩
  · exact ⟨_, _, rfl⟩

theorem owns_base {w : World} {base base' : Nat} {e : TypeId} {size : Nat} {v : Value} {n : Nat} {xs : List Value} (h : w.ownsRow base e size v n xs) (hb : base' ≤ base) : w.ownsRow base' e size v n xs := by
  refine ⟨h.1, ?_⟩
  rcases h.2 with h2 | ⟨g, cap, cur, hv, hg, r⟩
  · exact .inl h2
  · exact .inr ⟨g, cap, cur, hv, Nat.le_trans hb hg, r⟩

theorem cell_set {w : World} {a : Addr} {u v : Value} (h : w.cell? a = some u) : (w.setCell a v).cell? a = some v := World.cell?_setCell_same _ _ _ h

theorem cell_unset {w : World} {a b : Addr} {u v : Value} (hn : a ≠ b) (h : w.cell? b = some u) : (w.setCell a v).cell? b = some u := (World.cell?_setCell_other _ _ _ _ hn).trans h

/-! ### Texts -/

def pairsText (ps : List PairD) : List UInt8 := ps.flatMap fun p => [byt p.reg, byt p.place]

def pingText (x : PingD) : List UInt8 := [byt x.src, byt x.pairs.length] ++ pairsText x.pairs

def hintText (h : List PingD) : List UInt8 := [84, 72, byt h.length] ++ h.flatMap pingText

/-- A text out of bytes. -/
def str (l : List UInt8) : ByteArray := ⟨l.toArray⟩

theorem str_append (a b : List UInt8) : str a ++ str b = str (a ++ b) := by
  apply ByteArray.ext
  simp [str]

/-- The text of a pairing, as far as its first k pairs. -/
def pingTo (src : Int) (ps : List PairD) (k : Nat) : ByteArray := str ([byt src, byt ps.length] ++ pairsText (ps.take k))

theorem take_getD {α : Type} (l : List α) (d : α) (k : Nat) (h : k < l.length) : l.take (k + 1) = l.take k ++ [l.getD k d] := by
  rw [List.take_succ_eq_append_getElem h]; simp [h]

theorem pingTo_step {src : Int} {ps : List PairD} {k : Nat} (h : k < ps.length) : pingTo src ps (k + 1) = pingTo src ps k ++ ⟨#[byt (preg ps k), byt (pplace ps k)]⟩ := by
  show _ = str _ ++ str [_, _]
  rw [str_append]
  simp [pingTo, pairsText, take_getD ps pz k h, preg, pplace]

theorem pingTo_end {src : Int} {ps : List PairD} {k : Nat} (h : ps.length ≤ k) : pingTo src ps k = str (pingText ⟨src, ps⟩) := by
  simp [pingTo, pingText, List.take_of_length_le h]

/-- The text of a hint, as far as its first k blocks. -/
def hintTo (h : List PingD) (k : Nat) : ByteArray := str ([84, 72, byt h.length] ++ (h.take k).flatMap pingText)

theorem hintTo_step {h : List PingD} {k : Nat} (hk : k < h.length) : hintTo h (k + 1) = hintTo h k ++ str (pingText ⟨hsrc h k, hpairs h k⟩) := by
  unfold hintTo
  rw [str_append, take_getD h hz k hk, List.flatMap_append, List.append_assoc]
  simp [hsrc, hpairs]

theorem hintTo_end {h : List PingD} {k : Nat} (hk : h.length ≤ k) : hintTo h k = str (hintText h) := by
  simp [hintTo, hintText, List.take_of_length_le hk]

theorem pairsText_length (ps : List PairD) : (pairsText ps).length = 2 * ps.length := by
  induction ps with
  | nil => rfl
  | cons p r ih => simp only [pairsText, List.flatMap_cons, List.length_append, List.length_cons, List.length_nil] at *; omega

theorem pingTo_size (src : Int) (ps : List PairD) (k : Nat) (h : k ≤ ps.length) : (pingTo src ps k).size = 2 + 2 * k := by
  simp [pingTo, str, ByteArray.size, pairsText_length, List.length_take, Nat.min_eq_left h]
  omega

theorem goodHint_len {h : List PingD} (hg : goodHint h = true) : 1 ≤ h.length ∧ h.length ≤ 6 := by
  simp [goodHint] at hg; omega

theorem goodHint_ping {h : List PingD} (hg : goodHint h = true) (x : PingD) (hx : x ∈ h) : goodPing x = true := by
  simp [goodHint, goodPings] at hg; exact hg.2 x hx

theorem getD_mem' {α : Type} {l : List α} {d : α} {k : Nat} (h : k < l.length) : l.getD k d ∈ l := by
  simp [h]

theorem goodHint_pairs {h : List PingD} (hg : goodHint h = true) {k : Nat} (hk : k < h.length) : (hpairs h k).length ≤ 16 := by
  have := goodHint_ping hg (h.getD k hz) (getD_mem' hk)
  simp [goodPing] at this
  exact this.1.2

theorem pingText_length (x : PingD) : (pingText x).length = 2 + 2 * x.pairs.length := by
  simp [pingText, pairsText_length]; omega

theorem flat_le {l : List PingD} (h : ∀ x ∈ l, x.pairs.length ≤ 16) : (l.flatMap pingText).length ≤ 34 * l.length := by
  induction l with
  | nil => simp
  | cons x r ih =>
    have h1 := h x (by simp)
    have h2 := ih (fun y hy => h y (by simp [hy]))
    simp only [List.flatMap_cons, List.length_append, pingText_length, List.length_cons]
    omega

theorem hintTo_size {h : List PingD} (hg : goodHint h = true) (k : Nat) : (hintTo h k).size ≤ 210 := by
  have h1 := goodHint_len hg
  have h2 := flat_le (l := h.take k) (fun x hx => by
    have := goodHint_ping hg x (List.mem_of_mem_take hx)
    simp [goodPing] at this
    exact this.1.2)
  have h3 : (h.take k).length ≤ 6 := Nat.le_trans (List.length_take_le' _ _) h1.2
  have e : (hintTo h k).size = 3 + ((h.take k).flatMap pingText).length := by
    simp [hintTo, str, ByteArray.size]; omega
  omega

end Go.Proofs.Ytblhmeidbjigaaa

/- Well made hints, in the document's answer. -/
set_option linter.unusedSimpArgs false
set_option linter.unusedVariables false
namespace Go.Proofs.Ytblhmeidbjigaaa
open Go.RowKit

theorem below_true {a b : Int} (h1 : 0 ≤ a) (h2 : a < b) : below a b = true := by simp [below, h1, h2]
theorem below_lo {a b : Int} (h : a < 0) : below a b = false := by simp only [below, decide_eq_false_iff_not]; omega
theorem below_hi {a b : Int} (h : b ≤ a) : below a b = false := by simp only [below, decide_eq_false_iff_not]; omega

def lastAt (ps : List PairD) (j : Nat) : Int := if j = 0 then -1 else pplace ps (j - 1)

theorem lastAt_succ (ps : List PairD) (j : Nat) : lastAt ps (j + 1) = pplace ps j := by simp [lastAt]

set_option maxRecDepth 100000 in
set_option maxHeartbeats 2000000 in
theorem rGoodHint_any (v : Value) (h : List PingD) (w : World) (hr : RdHint w v h) :
    Calls Try.prog 38 #[.agg #[v]] w fun e w' => e = .returned (.bool (goodHint h)) ∧ Below w.heap.size w w' := by
  have hr0 := hr
  obtain ⟨ao, cap, rfl, hl, hc⟩ := hr
  obtain ⟨G, hG⟩ : ∃ G, goodHint h = G := ⟨_, rfl⟩
  rw [hG]
  by_cases h1 : (h.length : Int) < 1
  · have hGf : G = false := by rw [← hG]; simp [goodHint]; omega
    subst hGf
    clear hG
    go_enter Try.func38, Try.ntmps38
    go_wp2
    go_ret
    exact ⟨rfl, (Below.refl _ _).alloc (Nat.le_refl _) _⟩
  by_cases h2 : (6 : Int) < h.length
  · have hGf : G = false := by rw [← hG]; simp [goodHint]; omega
    subst hGf
    clear hG
    go_enter Try.func38, Try.ntmps38
    go_wp2
    go_ret
    exact ⟨rfl, (Below.refl _ _).alloc (Nat.le_refl _) _⟩
  have HG : Hid (G = gpFrom h 0) := by show G = _; rw [← hG]; simp [goodHint, gpFrom, show 1 ≤ h.length ∧ h.length ≤ 6 by omega]
  clear hG
  go_enter Try.func38, Try.ntmps38
  go_wp2
  go_loopw [3] (fun i wr => ∃ (k : Nat), k ≤ h.length ∧ i = .int .i64 k ∧ Hid (G = gpFrom h k) ∧ Below (w.heap.size + 1) (w.alloc (.cells #[.slice ao h.length cap] 31)) wr)
    (fun i _ => h.length - (intOf i).toNat)
  case atStart => exact ⟨0, Nat.zero_le _, rfl, HG, Below.refl _ _⟩
  case round =>
    obtain ⟨k, hk, rfl, hg, hbel⟩ := hrel
    have hx0 : wr.cell? ⟨w.heap.size, 0, none⟩ = some (.slice ao h.length cap) := (hbel.cell (by simp)).trans (by simp)
    have hz := hbel.size
    clear HG
    by_cases hlt : k < h.length
    case neg =>
      have hGt : G = true := by rw [hg.out, gpFrom_end (by omega)]
      subst hGt
      clear hg
      go_wp2
      go_ret
      exact ⟨rfl, Below.under hbel⟩
    obtain ⟨b, off, sv, rfl, hc1, hc2, hc3⟩ := hc k hlt
    have hd1 := cell_keep (Below.under hbel) hc1
    have hd2 := cell_keep (Below.under hbel) hc2
    have hd3 := hc3.keep (Below.under hbel)
    obtain ⟨so, sc, rfl, hsl, hsc⟩ := hd3
    have HS : Hid (gpFrom h k = (goodPing ⟨hsrc h k, hpairs h k⟩ && gpFrom h (k + 1))) := gpFrom_step hlt
    simp at hz
    by_cases s1 : hsrc h k < 0
    · have hGf : G = false := by rw [hg.out, HS.out]; simp [goodPing, below_lo s1]
      subst hGf
      clear hg HS
      go_wp2
      go_ret
      exact ⟨rfl, (Below.under hbel).alloc (by omega) _⟩
    by_cases s2 : 6 ≤ hsrc h k
    · have hGf : G = false := by rw [hg.out, HS.out]; simp [goodPing, below_hi s2]
      subst hGf
      clear hg HS
      go_wp2
      go_ret
      exact ⟨rfl, (Below.under hbel).alloc (by omega) _⟩
    by_cases s3 : (16 : Int) < (hpairs h k).length
    · have hGf : G = false := by rw [hg.out, HS.out]; simp [goodPing, show ¬ (hpairs h k).length ≤ 16 by omega]
      subst hGf
      clear hg HS
      go_wp2
      go_ret
      exact ⟨rfl, (Below.under hbel).alloc (by omega) _⟩
    have HP : Hid (G = (gFrom (hpairs h k) (lastAt (hpairs h k) 0) 0 && gpFrom h (k + 1))) := by
      show G = _
      rw [hg.out, HS.out]; simp [goodPing, below_true (show 0 ≤ hsrc h k by omega) (show hsrc h k < 6 by omega), show (hpairs h k).length ≤ 16 by omega, gFrom, lastAt]
    clear hg HS
    generalize hpairs h k = ps at *
    generalize hsrc h k = src at *
    obtain ⟨wo, hwo⟩ : ∃ wo, wo = wr := ⟨_, rfl⟩
    subst hwo
    have hbo := (Below.under hbel)
    go_wp2
    clear hc1 hc2 hc3 hd1 hd2
    go_loopw [5] (fun i w2 => ∃ (j : Nat), j ≤ ps.length ∧ i = .int .i64 j ∧ Hid (G = (gFrom ps (lastAt ps j) j && gpFrom h (k + 1))) ∧ Below (wo.heap.size + 1) (wo.alloc (.cells #[.int .i64 src, .slice so ps.length sc] 94)) w2)
      (fun i _ => ps.length - (intOf i).toNat)
    case atStart => exact ⟨0, Nat.zero_le _, rfl, HP, Below.refl _ _⟩
    case round =>
      obtain ⟨j, hj, rfl, hg, hbin⟩ := hrel
      clear HP
      have hy1 : wr.cell? ⟨wo.heap.size, 1, none⟩ = some (.slice so ps.length sc) := (hbin.cell (by simp)).trans (by simp)
      have hzi := hbin.size
      simp at hzi
      have hzk : wo.heap.size < wr.heap.size := by omega
      have hbw := hbo.trans ((Below.under hbin).mono (by omega))
      by_cases hjl : j < ps.length
      case neg =>
        have hG' : Hid (G = gpFrom h (k + 1)) := by show G = _; rw [hg.out, gFrom_end (by omega)]; rfl
        clear hg
        have hb' := hbel.trans ((Below.under hbin).mono (by omega))
        go_wp2
        go_roundw
        case rel => exact ⟨k + 1, by omega, by go_num, hG', hb'⟩
        case measure => simp [intOf]; omega
      obtain ⟨b2, off2, rfl, e1, e2⟩ := hsc j hjl
      have hd1 := cell_keep (Below.under hbin) e1
      have hd2 := cell_keep (Below.under hbin) e2
      have HS : Hid (gFrom ps (lastAt ps j) j = (below (preg ps j) 8 && below (pplace ps j) 16 && decide (lastAt ps j < pplace ps j) && gFrom ps (pplace ps j) (j + 1))) := gFrom_step hjl
      by_cases t1 : preg ps j < 0
      · have hGf : G = false := by rw [hg.out, HS.out, below_lo t1]; rfl
        subst hGf
        clear hg HS
        go_wp2
        go_ret
        exact ⟨rfl, hbw.alloc (by omega) _⟩
      by_cases t2 : 8 ≤ preg ps j
      · have hGf : G = false := by rw [hg.out, HS.out, below_hi t2]; rfl
        subst hGf
        clear hg HS
        go_wp2
        go_ret
        exact ⟨rfl, hbw.alloc (by omega) _⟩
      by_cases t3 : pplace ps j < 0
      · have hGf : G = false := by rw [hg.out, HS.out, below_lo t3]; simp
        subst hGf
        clear hg HS
        go_wp2
        go_ret
        exact ⟨rfl, hbw.alloc (by omega) _⟩
      by_cases t4 : 16 ≤ pplace ps j
      · have hGf : G = false := by rw [hg.out, HS.out, below_hi t4]; simp
        subst hGf
        clear hg HS
        go_wp2
        go_ret
        exact ⟨rfl, hbw.alloc (by omega) _⟩
      have HG : Hid (G = (decide (lastAt ps j < pplace ps j) && gFrom ps (lastAt ps (j + 1)) (j + 1) && gpFrom h (k + 1))) := by
        show G = _
        rw [hg.out, HS.out, below_true (show 0 ≤ preg ps j by omega) (by omega), below_true (show 0 ≤ pplace ps j by omega) (by omega), lastAt_succ]; rfl
      clear hg HS
      by_cases t5 : j = 0
      · have hG' : Hid (G = (gFrom ps (lastAt ps (j + 1)) (j + 1) && gpFrom h (k + 1))) := by
          show G = _
          rw [HG.out, show lastAt ps j = -1 by simp [lastAt, t5], show decide ((-1 : Int) < pplace ps j) = true by simp; omega]; rfl
        clear HG
        have hgd : decide ((0 : Int) < (j : Int)) = false := by simp; omega
        have hgd2 : decide (0 < j) = false := by simp; omega
        have hgd3 : (0 < j) = False := by simp; omega
        clear t5
        go_wp2
        go_quiet (fail)
        go_wp2
        go_roundw
        case rel => exact ⟨j + 1, by omega, by go_num, hG', below_drewN (hbin.alloc (by omega) _) _⟩
        case measure => simp [intOf]; omega
      obtain ⟨i, rfl⟩ : ∃ i, j = i + 1 := ⟨j - 1, by omega⟩
      clear t5
      have hgd : (0 : Int) < ((i + 1 : Nat) : Int) := by omega
      obtain ⟨b3, off3, e3, e4, e5⟩ := hsc i (by omega)
      obtain ⟨rfl, rfl⟩ : b2 = b3 ∧ off2 = off3 := by simpa using e3
      have hd3 := cell_keep (Below.under hbin) e5
      have hbl : b2 < wr.heap.size := World.block_lt_of_cell? _ _ hd3
      have hq : ((i : Int) + 1 - 1) = (i : Int) := by omega
      have hil : (i : Int) < ps.length := by omega
      have hin : (0 : Int) ≤ i := by omega
      rw [lastAt_succ] at HG
      by_cases t6 : pplace ps (i + 1) ≤ pplace ps i
      · have hGf : G = false := by rw [HG.out, show decide (pplace ps i < pplace ps (i + 1)) = false by simp; omega]; rfl
        subst hGf
        clear HG
        go_wp2
        go_quiet (fail)
        go_wp2
        go_ret
        exact ⟨rfl, below_drewN (hbw.alloc (by omega) _) _⟩
      have hG' : Hid (G = (gFrom ps (lastAt ps (i + 1 + 1)) (i + 1 + 1) && gpFrom h (k + 1))) := by
        show G = _
        rw [HG.out, show decide (pplace ps i < pplace ps (i + 1)) = true by simp; omega, lastAt_succ]; rfl
      clear HG
      go_wp2
      go_quiet (fail)
      go_wp2
      go_roundw
      case rel => exact ⟨i + 1 + 1, by omega, by go_num, hG', below_drewN (hbin.alloc (by omega) _) _⟩
      case measure => simp [intOf]; omega

end Go.Proofs.Ytblhmeidbjigaaa

/- The text of a hint, in the document's answer. -/
set_option linter.unusedSimpArgs false
set_option linter.unusedVariables false
namespace Go.Proofs.Ytblhmeidbjigaaa
open Go.RowKit

theorem bytes1 (x : Int) (w : World) : Calls Try.prog 62 #[.slice (some ⟨w.heap.size, 0, none⟩) 1 1] (w.alloc (.cells #[.int .i64 x] 3)) fun e w' => e = .returned (.string ⟨#[byt x]⟩) ∧ Below w.heap.size w w' := by
  have h := bytes_any w.heap.size 0 1 [x] (w.alloc (.cells #[.int .i64 x] 3)) (by simp) (by simp) (by
    intro i hi
    obtain rfl : i = 0 := by simp at hi; omega
    simp [el])
  refine h.mono ?_
  rintro e w' ⟨rfl, hb⟩
  exact ⟨rfl, ((Below.refl _ _).alloc (Nat.le_refl _) _).trans (hb.mono (by simp))⟩

theorem bytes2 (x y : Int) (w : World) : Calls Try.prog 62 #[.slice (some ⟨w.heap.size, 0, none⟩) 2 2] (w.alloc (.cells #[.int .i64 x, .int .i64 y] 3)) fun e w' => e = .returned (.string ⟨#[byt x, byt y]⟩) ∧ Below w.heap.size w w' := by
  have h := bytes_any w.heap.size 0 2 [x, y] (w.alloc (.cells #[.int .i64 x, .int .i64 y] 3)) (by simp) (by simp) (by
    intro i hi
    obtain rfl | rfl : i = 0 ∨ i = 1 := by simp at hi; omega
    all_goals simp [el])
  refine h.mono ?_
  rintro e w' ⟨rfl, hb⟩
  exact ⟨rfl, ((Below.refl _ _).alloc (Nat.le_refl _) _).trans (hb.mono (by simp))⟩

/-- The text of a hint as far as its first k blocks, the k-th begun, and j of its pairs. -/
def hintAt (h : List PingD) (k j : Nat) : ByteArray := hintTo h k ++ pingTo (hsrc h k) (hpairs h k) j

theorem hintAt_start (h : List PingD) (k : Nat) : hintAt h k 0 = hintTo h k ++ ⟨#[byt (hsrc h k), byt (hpairs h k).length]⟩ := rfl

theorem bappend_assoc (a b c : ByteArray) : a ++ b ++ c = a ++ (b ++ c) := by
  apply ByteArray.ext; simp [Array.append_assoc]

theorem hintAt_step {h : List PingD} {k j : Nat} (hj : j < (hpairs h k).length) : hintAt h k (j + 1) = hintAt h k j ++ ⟨#[byt (preg (hpairs h k) j), byt (pplace (hpairs h k) j)]⟩ := by
  unfold hintAt; rw [pingTo_step hj, bappend_assoc]

theorem hintAt_end {h : List PingD} {k j : Nat} (hk : k < h.length) (hj : (hpairs h k).length ≤ j) : hintAt h k j = hintTo h (k + 1) := by
  unfold hintAt; rw [pingTo_end hj, hintTo_step hk]

theorem hintAt_size {h : List PingD} (hg : goodHint h = true) {k j : Nat} (hk : k < h.length) (hj : j ≤ (hpairs h k).length) : (hintAt h k j).size ≤ 310 := by
  have h1 := hintTo_size hg k
  have h2 := goodHint_pairs hg hk
  have h3 := pingTo_size (hsrc h k) (hpairs h k) j hj
  unfold hintAt
  rw [ByteArray.size_append]
  omega

set_option maxRecDepth 100000 in
set_option maxHeartbeats 2000000 in
theorem rHintText_any (v : Value) (h : List PingD) (w : World) (hr : RdHint w v h) (hg : goodHint h = true) :
    Calls Try.prog 39 #[.agg #[v]] w fun e w' => e = .returned (.string (str (hintText h))) ∧ Below w.heap.size w w' := by
  have hr0 := hr
  obtain ⟨ao, cap, rfl, hl, hc⟩ := hr
  obtain ⟨G, hG⟩ : ∃ G, str (hintText h) = G := ⟨_, rfl⟩
  rw [hG]
  have HG : Hid (str (hintText h) = G) := hG
  clear hG
  have hlen := (goodHint_len hg).2
  go_enter Try.func39, Try.ntmps39
  go_wp2_with fail
  have hb := bytes1 (h.length) (w.alloc (.cells #[.slice ao h.length cap] 31))
  simp only [World.size_alloc] at hb
  refine hb.mono ?_
  rintro e w1 ⟨rfl, hb1⟩
  have h0 : (⟨#[84, 72]⟩ : ByteArray) ++ ⟨#[byt h.length]⟩ = hintTo h 0 := by
    show str [84, 72] ++ str [byt h.length] = _
    rw [str_append]; rfl
  go_wp2
  clear h0 hb
  go_loopw [3, 4] (fun l i wr => ∃ (k : Nat), k ≤ h.length ∧ i = .int .i64 k ∧ l = .string (hintTo h k) ∧ Below (w.heap.size + 1) (w.alloc (.cells #[.slice ao h.length cap] 31)) wr)
      (fun _ i _ => h.length - (intOf i).toNat)
  case atStart => exact ⟨0, Nat.zero_le _, rfl, rfl, by simpa using hb1⟩
  case round =>
    obtain ⟨k, hk, rfl, rfl, hbel⟩ := hrel
    clear hb1 w1
    have hx0 : wr.cell? ⟨w.heap.size, 0, none⟩ = some (.slice ao h.length cap) := (hbel.cell (by simp)).trans (by simp)
    have hz := hbel.size
    simp at hz
    by_cases hlt : k < h.length
    case neg =>
      have he : hintTo h k = G := (hintTo_end (by omega)).trans HG.out
      go_wp2
      go_ret
      exact ⟨by simp [he], Below.under hbel⟩
    obtain ⟨b, off, sv, rfl, hc1, hc2, hc3⟩ := hc k hlt
    have hd1 := cell_keep (Below.under hbel) hc1
    have hd2 := cell_keep (Below.under hbel) hc2
    have hd3 := hc3.keep (Below.under hbel)
    obtain ⟨so, sc, rfl, hsl, hsc⟩ := hd3
    have hsz := hintTo_size hg k
    have hpl := goodHint_pairs hg hlt
    have hb2 := bytes2 (hsrc h k) (hpairs h k).length (wr.alloc (.cells #[.int .i64 (hsrc h k), .slice so (hpairs h k).length sc] 94))
    simp only [World.size_alloc] at hb2
    go_wp2_with fail
    refine hb2.mono ?_
    rintro e w1 ⟨rfl, hb3⟩
    clear hb2
    have HA : Hid (hintAt h k 0 = hintTo h k ++ ⟨#[byt (hsrc h k), byt (hpairs h k).length]⟩) := hintAt_start h k
    have hbo := (Below.under hbel)
    obtain ⟨wo, hwo⟩ : ∃ wo, wo = wr := ⟨_, rfl⟩
    subst hwo
    clear hc1 hc2 hc3 hd1 hd2 hx0
    go_wp2
    go_loopw [3, 6] (fun l i w2 => ∃ (j : Nat), j ≤ (hpairs h k).length ∧ i = .int .i64 j ∧ l = .string (hintAt h k j) ∧ Below (wo.heap.size + 1) (wo.alloc (.cells #[.int .i64 (hsrc h k), .slice so (hpairs h k).length sc] 94)) w2)
      (fun _ i _ => (hpairs h k).length - (intOf i).toNat)
    case atStart => exact ⟨0, Nat.zero_le _, rfl, by rw [HA.out], by simpa using hb3⟩
    case round =>
      obtain ⟨j, hj, rfl, rfl, hbin⟩ := hrel
      clear hb3 w1
      have hy1 : wr.cell? ⟨wo.heap.size, 1, none⟩ = some (.slice so (hpairs h k).length sc) := (hbin.cell (by simp)).trans (by simp)
      have hzi := hbin.size
      simp at hzi
      by_cases hjl : j < (hpairs h k).length
      case neg =>
        have he : hintAt h k j = hintTo h (k + 1) := hintAt_end hlt (by omega)
        have hb' := hbel.trans ((Below.under hbin).mono (by omega))
        go_wp2
        go_roundw
        case rel => exact ⟨k + 1, by omega, by go_num, by rw [he], hb'⟩
        case measure => simp [intOf]; omega
      obtain ⟨b2, off2, rfl, e1, e2⟩ := hsc j hjl
      have hd1 := cell_keep (Below.under hbin) e1
      have hd2 := cell_keep (Below.under hbin) e2
      have q0 := fun (w' : World) (hb : Below wr.heap.size wr w') => cell_keep hb hy1
      have q1 := fun (w' : World) (hb : Below wr.heap.size wr w') => cell_keep hb hd1
      have q2 := fun (w' : World) (hb : Below wr.heap.size wr w') => cell_keep hb hd2
      have hsz2 := hintAt_size hg hlt hj
      go_wp2
      have hbt : Calls Try.prog 62 #[.slice (some ⟨wr.heap.size, 0, none⟩) 2 2] (wr.alloc (.cells #[.int .i64 (preg (hpairs h k) j), .int .i64 (pplace (hpairs h k) j)] 3)).drew fun e w' => e = .returned (.string ⟨#[byt (preg (hpairs h k) j), byt (pplace (hpairs h k) j)]⟩) ∧ Below wr.heap.size wr w' :=
        (bytes2 _ _ wr.drew).mono fun e w' h => ⟨h.1, (Below.refl wr.heap.size wr).drew.trans h.2⟩
      have f1 : (9223372036854775807 < (hintAt h k j).size + 2) = False := by simp only [eq_iff_iff, iff_false]; omega
      have f2 : (9223372036854775805 < (hintAt h k j).size) = False := by simp only [eq_iff_iff, iff_false]; omega
      go_region_held3 (fun w' => Below wr.heap.size wr w') (first | exact (Below.refl _ _).drew | exact ((Below.refl _ _).alloc (Nat.le_refl _) _).drew | assumption) (first | (go_at_call 62; refine hbt.mono ?_; rintro e w' ⟨rfl, hb9⟩))
      have HS : Hid (hintAt h k (j + 1) = hintAt h k j ++ ⟨#[byt (preg (hpairs h k) j), byt (pplace (hpairs h k) j)]⟩) := hintAt_step hjl
      clear q0 q1 q2 hd1 hd2 hy1
      go_wp2
      go_roundw
      case rel => exact ⟨j + 1, by omega, by go_num, by rw [HS.out], hbin.trans (Below.mono (by assumption) (by omega))⟩
      case measure => simp [intOf]; omega

end Go.Proofs.Ytblhmeidbjigaaa

/- Hints in the codec: what each call gives. -/
set_option linter.unusedSimpArgs false
set_option linter.unusedVariables false
namespace Go.Proofs.Ytblhmeidbjigaaa
open Go.RowKit

set_option maxHeartbeats 1000000 in
theorem wmPairing_any (src : Int) (sv : Value) (ps : List PairD) (w : World) (hr : RdPairs w sv ps) :
    Calls Try.prog 89 #[.agg #[.int .i64 src, sv]] w fun e w' => e = .returned (.bool (goodPing ⟨src, ps⟩)) ∧ Below w.heap.size w w' := by
  obtain ⟨ao, cap, rfl, hl, hc⟩ := hr
  obtain ⟨G, hG⟩ : ∃ G, goodPing ⟨src, ps⟩ = G := ⟨_, rfl⟩
  rw [hG]
  cases h1 : below src 6
  · have hGf : G = false := by rw [← hG]; simp [goodPing, h1]
    subst hGf
    clear hG
    go_enter Try.func89, Try.ntmps89
    go_wp2_with (go_at_call 87; refine (isBelow_any _ _ _).mono ?_; rintro e w' ⟨rfl, rfl⟩)
    go_ret
    exact ⟨rfl, (Below.refl _ _).alloc (Nat.le_refl _) _⟩
  by_cases h2 : (16 : Int) < ps.length
  · have hGf : G = false := by rw [← hG]; simp [goodPing, h1]; omega
    subst hGf
    clear hG
    go_enter Try.func89, Try.ntmps89
    go_wp2_with (go_at_call 87; refine (isBelow_any _ _ _).mono ?_; rintro e w' ⟨rfl, rfl⟩)
    go_ret
    exact ⟨rfl, (Below.refl _ _).alloc (Nat.le_refl _) _⟩
  have HG : Hid (G = gFrom ps (-1) 0) := by show G = _; rw [← hG]; simp [goodPing, h1, gFrom, show ps.length ≤ 16 by omega]
  clear hG
  go_enter Try.func89, Try.ntmps89
  go_wp2_with (go_at_call 87; refine (isBelow_any _ _ _).mono ?_; rintro e w' ⟨rfl, rfl⟩)
  go_loopw [3, 4] (fun l i wr => ∃ (k : Nat) (last : Int), k ≤ ps.length ∧ i = .int .i64 k ∧ l = .int .i64 last ∧ Hid (G = gFrom ps last k) ∧ Below (w.heap.size + 1) (w.alloc (.cells #[.int .i64 src, .slice ao ps.length cap] 94)) wr)
    (fun _ i _ => ps.length - (intOf i).toNat)
  case atStart => exact ⟨0, -1, Nat.zero_le _, rfl, rfl, HG, Below.refl _ _⟩
  case round =>
    obtain ⟨k, last, hk, rfl, rfl, hg, hbel⟩ := hrel
    have hx0 : wr.cell? ⟨w.heap.size, 0, none⟩ = some (.int .i64 src) := (hbel.cell (by simp)).trans (by simp)
    have hx1 : wr.cell? ⟨w.heap.size, 1, none⟩ = some (.slice ao ps.length cap) := (hbel.cell (by simp)).trans (by simp)
    have hz := hbel.size
    by_cases hlt : k < ps.length
    · obtain ⟨b, off, rfl, hc1, hc2⟩ := hc k hlt
      have hd1 := cell_keep (Below.under hbel) hc1
      have hd2 := cell_keep (Below.under hbel) hc2
      have HS : Hid (gFrom ps last k = (below (preg ps k) 8 && below (pplace ps k) 16 && decide (last < pplace ps k) && gFrom ps (pplace ps k) (k + 1))) := gFrom_step hlt
      cases h3 : below (preg ps k) 8
      · have hGf : G = false := by rw [hg.out, HS.out, h3]; rfl
        subst hGf
        clear hg HS HG
        go_wp2_with (go_at_call 87; refine (isBelow_any _ _ _).mono ?_; rintro e w' ⟨rfl, rfl⟩)
        go_ret
        exact ⟨rfl, (Below.under hbel).alloc (by simp at hz; omega) _⟩
      cases h4 : below (pplace ps k) 16
      · have hGf : G = false := by rw [hg.out, HS.out, h3, h4]; rfl
        subst hGf
        clear hg HS HG
        go_wp2_with (go_at_call 87; refine (isBelow_any _ _ _).mono ?_; rintro e w' ⟨rfl, rfl⟩)
        go_ret
        exact ⟨rfl, (Below.under hbel).alloc (by simp at hz; omega) _⟩
      by_cases h5 : last < pplace ps k
      · have hG' : Hid (G = gFrom ps (pplace ps k) (k + 1)) := by show G = _; rw [hg.out, HS.out, h3, h4]; simp [h5]
        clear hg HS HG
        go_wp2_with (go_at_call 87; refine (isBelow_any _ _ _).mono ?_; rintro e w' ⟨rfl, rfl⟩)
        go_roundw
        case rel => exact ⟨k + 1, _, by omega, by go_num, rfl, hG', hbel.alloc (by simp at hz; omega) _⟩
        case measure => simp [intOf]; omega
      · have hGf : G = false := by rw [hg.out, HS.out, h3, h4]; simp [h5]
        subst hGf
        clear hg HS HG
        go_wp2_with (go_at_call 87; refine (isBelow_any _ _ _).mono ?_; rintro e w' ⟨rfl, rfl⟩)
        go_ret
        exact ⟨rfl, (Below.under hbel).alloc (by simp at hz; omega) _⟩
    · have hGt : G = true := by rw [hg.out, gFrom_end (by omega)]
      subst hGt
      clear hg HG
      go_wp2
      go_ret
      exact ⟨rfl, Below.under hbel⟩

set_option maxHeartbeats 1000000 in
theorem wmHint_any (v : Value) (h : List PingD) (w : World) (hr : RdHint w v h) :
    Calls Try.prog 78 #[.agg #[v]] w fun e w' => e = .returned (.bool (goodHint h)) ∧ Below w.heap.size w w' := by
  have hr0 := hr
  obtain ⟨ao, cap, rfl, hl, hc⟩ := hr
  obtain ⟨G, hG⟩ : ∃ G, goodHint h = G := ⟨_, rfl⟩
  rw [hG]
  by_cases h1 : (h.length : Int) < 1
  · have hGf : G = false := by rw [← hG]; simp [goodHint]; omega
    subst hGf
    clear hG
    go_enter Try.func78, Try.ntmps78
    go_wp2
    go_ret
    exact ⟨rfl, (Below.refl _ _).alloc (Nat.le_refl _) _⟩
  by_cases h2 : (6 : Int) < h.length
  · have hGf : G = false := by rw [← hG]; simp [goodHint]; omega
    subst hGf
    clear hG
    go_enter Try.func78, Try.ntmps78
    go_wp2
    go_ret
    exact ⟨rfl, (Below.refl _ _).alloc (Nat.le_refl _) _⟩
  have HG : Hid (G = gpFrom h 0) := by show G = _; rw [← hG]; simp [goodHint, gpFrom, show 1 ≤ h.length ∧ h.length ≤ 6 by omega]
  clear hG
  go_enter Try.func78, Try.ntmps78
  go_wp2
  go_loopw [3] (fun i wr => ∃ (k : Nat), k ≤ h.length ∧ i = .int .i64 k ∧ Hid (G = gpFrom h k) ∧ Below (w.heap.size + 1) (w.alloc (.cells #[.slice ao h.length cap] 31)) wr)
    (fun i _ => h.length - (intOf i).toNat)
  case atStart => exact ⟨0, Nat.zero_le _, rfl, HG, Below.refl _ _⟩
  case round =>
    obtain ⟨k, hk, rfl, hg, hbel⟩ := hrel
    have hx0 : wr.cell? ⟨w.heap.size, 0, none⟩ = some (.slice ao h.length cap) := (hbel.cell (by simp)).trans (by simp)
    have hz := hbel.size
    by_cases hlt : k < h.length
    · obtain ⟨b, off, sv, rfl, hc1, hc2, hc3⟩ := hc k hlt
      have hd1 := cell_keep (Below.under hbel) hc1
      have hd2 := cell_keep (Below.under hbel) hc2
      have hd3 := hc3.keep (Below.under hbel)
      have HS : Hid (gpFrom h k = (goodPing ⟨hsrc h k, hpairs h k⟩ && gpFrom h (k + 1))) := gpFrom_step hlt
      cases h3 : goodPing ⟨hsrc h k, hpairs h k⟩
      · have hGf : G = false := by rw [hg.out, HS.out, h3]; rfl
        subst hGf
        clear hg HS HG
        go_wp2_with fail
        refine (wmPairing_any _ _ _ _ hd3).mono ?_
        rintro e w' ⟨rfl, hb2⟩
        go_wp2
        go_ret
        exact ⟨rfl, (Below.under hbel).trans (hb2.mono (by simp at hz; omega))⟩
      · have hG' : Hid (G = gpFrom h (k + 1)) := by show G = _; rw [hg.out, HS.out, h3]; rfl
        clear hg HS HG
        go_wp2_with fail
        refine (wmPairing_any _ _ _ _ hd3).mono ?_
        rintro e w' ⟨rfl, hb2⟩
        go_wp2
        go_roundw
        case rel => exact ⟨k + 1, by omega, by go_num, hG', hbel.trans (hb2.mono (by simp at hz; omega))⟩
        case measure => simp [intOf]; omega
    · have hGt : G = true := by rw [hg.out, gpFrom_end (by omega)]
      subst hGt
      clear hg HG
      go_wp2
      go_ret
      exact ⟨rfl, Below.under hbel⟩

end Go.Proofs.Ytblhmeidbjigaaa

/- The text of a hint in the codec. -/
set_option linter.unusedSimpArgs false
set_option linter.unusedVariables false
namespace Go.Proofs.Ytblhmeidbjigaaa
open Go.RowKit

set_option maxHeartbeats 1000000 in
theorem pairingText_any (src : Int) (sv : Value) (ps : List PairD) (w : World) (hr : RdPairs w sv ps) (hn : ps.length ≤ 16) :
    Calls Try.prog 79 #[.agg #[.int .i64 src, sv]] w fun e w' => e = .returned (.string (str (pingText ⟨src, ps⟩))) ∧ Below w.heap.size w w' := by
  obtain ⟨ao, cap, rfl, hl, hc⟩ := hr
  obtain ⟨G, hG⟩ : ∃ G, str (pingText ⟨src, ps⟩) = G := ⟨_, rfl⟩
  rw [hG]
  have HG : Hid (str (pingText ⟨src, ps⟩) = G) := hG
  clear hG
  go_enter Try.func79, Try.ntmps79
  go_wp2_with fail
  refine (twoBytes_any _ _ _).mono ?_
  rintro e w1 ⟨rfl, hb1⟩
  have h0 : (⟨#[byt src, byt ps.length]⟩ : ByteArray) = pingTo src ps 0 := rfl
  rw [h0]
  have hb1' : Below (w.heap.size + 1) (w.alloc (.cells #[.int .i64 src, .slice ao ps.length cap] 94)) w1 := by simpa using hb1
  clear hb1 h0
  go_wp2
  go_loopw [3, 4] (fun l i wr => ∃ (k : Nat), k ≤ ps.length ∧ i = .int .i64 k ∧ l = .string (pingTo src ps k) ∧ Below (w.heap.size + 1) (w.alloc (.cells #[.int .i64 src, .slice ao ps.length cap] 94)) wr)
    (fun _ i _ => ps.length - (intOf i).toNat)
  case atStart => exact ⟨0, Nat.zero_le _, rfl, rfl, hb1'⟩
  case round =>
    obtain ⟨k, hk, rfl, rfl, hbel⟩ := hrel
    have hx1 : wr.cell? ⟨w.heap.size, 1, none⟩ = some (.slice ao ps.length cap) := (hbel.cell (by simp)).trans (by simp)
    have hz := hbel.size
    by_cases hlt : k < ps.length
    · obtain ⟨b, off, rfl, hc1, hc2⟩ := hc k hlt
      have hd1 := cell_keep (Below.under hbel) hc1
      have hd2 := cell_keep (Below.under hbel) hc2
      have q0 := fun x : Past wr.heap.size wr => x.cell hx1
      have q1 := fun x : Past wr.heap.size wr => x.cell hd1
      have q2 := fun x : Past wr.heap.size wr => x.cell hd2
      have hsz : (pingTo src ps k).size ≤ 100 := by rw [pingTo_size _ _ _ hk]; omega
      have np := Past.any wr.heap.size wr
      go_wp2
      refine wp_region_past wr.heap.size (by kernel_rfl) (by kernel_rfl) ?_
      repeat (go_big_quiet_step (exact Calls.past_of (Nat.le_refl _) (twoBytes_any _ _ _)))
      refine wpQuiet_nil ?_
      rintro _ ⟨x, rfl⟩
      have hb2 := hbel.trans (x.ok.mono (by simp at hz; omega))
      clear q0 q1 q2 np hd1 hd2 hx1
      have HS : Hid (pingTo src ps (k + 1) = pingTo src ps k ++ ⟨#[byt (preg ps k), byt (pplace ps k)]⟩) := pingTo_step hlt
      go_wp2
      go_roundw
      case rel => exact ⟨k + 1, by omega, by go_num, by rw [HS.out], hb2⟩
      case measure => simp [intOf]; omega
    · have he : pingTo src ps k = G := (pingTo_end (by omega)).trans HG.out
      go_wp2
      go_ret
      exact ⟨by simp [he], Below.under hbel⟩

set_option maxHeartbeats 1000000 in
theorem cEncodeHint_any (v : Value) (h : List PingD) (w : World) (hr : RdHint w v h) :
    Calls Try.prog 51 #[.agg #[v]] w fun e w' => e = .returned (.tuple (if goodHint h then #[.string (str (hintText h)), .int .i64 0] else #[.string ⟨#[]⟩, .int .i64 2])) ∧ Below w.heap.size w w' := by
  have hr0 := hr
  obtain ⟨ao, cap, rfl, hl, hc⟩ := hr
  cases hg : goodHint h
  · go_enter Try.func51, Try.ntmps51
    go_wp2_with fail
    refine (wmHint_any _ _ _ (hr0.keep ((Below.refl _ _).alloc (Nat.le_refl _) _))).mono ?_
    rintro e w1 ⟨rfl, hb1⟩
    go_wp2
    go_ret2
    exact ⟨by simp [hg], ((Below.refl _ _).alloc (Nat.le_refl _) _).trans (hb1.mono (by simp))⟩
  · obtain ⟨G, hG⟩ : ∃ G, str (hintText h) = G := ⟨_, rfl⟩
    rw [hG]
    have HG : Hid (str (hintText h) = G) := hG
    clear hG
    have hlen := (goodHint_len hg).2
    go_enter Try.func51, Try.ntmps51
    go_wp2_with fail
    refine (wmHint_any _ _ _ (hr0.keep ((Below.refl _ _).alloc (Nat.le_refl _) _))).mono ?_
    rintro e w1 ⟨rfl, hb1⟩
    have hb1' : Below (w.heap.size + 1) (w.alloc (.cells #[.slice ao h.length cap] 31)) w1 := by simpa using hb1
    clear hb1
    have hx1 : w1.cell? ⟨w.heap.size, 0, none⟩ = some (.slice ao h.length cap) := (hb1'.cell (by simp)).trans (by simp)
    go_wp2_with fail
    refine (oneByte_any _ _).mono ?_
    rintro e w2 ⟨rfl, hb2⟩
    have hz1 := hb1'.size
    have hb2' := hb1'.trans (hb2.mono (by simpa using hz1))
    clear hx1 hb1' hb2 hz1
    have h0 : (⟨#[84, 72]⟩ : ByteArray) ++ ⟨#[byt h.length]⟩ = hintTo h 0 := by
      show str [84, 72] ++ str [byt h.length] = _
      rw [str_append]; rfl
    go_wp2
    go_loopw [4, 5] (fun l i wr => ∃ (k : Nat), k ≤ h.length ∧ i = .int .i64 k ∧ l = .string (hintTo h k) ∧ Below (w.heap.size + 1) (w.alloc (.cells #[.slice ao h.length cap] 31)) wr)
      (fun _ i _ => h.length - (intOf i).toNat)
    case atStart => exact ⟨0, Nat.zero_le _, rfl, by rw [← h0], hb2'⟩
    case round =>
      obtain ⟨k, hk, rfl, rfl, hbel⟩ := hrel
      clear h0
      have hx1 : wr.cell? ⟨w.heap.size, 0, none⟩ = some (.slice ao h.length cap) := (hbel.cell (by simp)).trans (by simp)
      have hz := hbel.size
      by_cases hlt : k < h.length
      · obtain ⟨b, off, sv, rfl, hc1, hc2, hc3⟩ := hc k hlt
        have hd1 := cell_keep (Below.under hbel) hc1
        have hd2 := cell_keep (Below.under hbel) hc2
        have hd3 := hc3.keep (Below.under hbel)
        have hsz := hintTo_size hg k
        have hpl := goodHint_pairs hg hlt
        have hsz2 : (str (pingText ⟨hsrc h k, hpairs h k⟩)).size ≤ 100 := by simp [str, ByteArray.size, pingText_length]; omega
        have HS : Hid (hintTo h (k + 1) = hintTo h k ++ str (pingText ⟨hsrc h k, hpairs h k⟩)) := hintTo_step hlt
        go_wp2_with fail
        refine (pairingText_any _ _ _ _ hd3 hpl).mono ?_
        rintro e w3 ⟨rfl, hb3⟩
        have hb4 := hbel.trans (hb3.mono (by simpa using hz))
        go_wp2
        go_roundw
        case rel => exact ⟨k + 1, by omega, by go_num, by rw [HS.out], hb4⟩
        case measure => simp [intOf]; omega
      · have he : hintTo h k = G := (hintTo_end (by omega)).trans HG.out
        go_wp2
        go_ret2
        exact ⟨by simp [he], Below.under hbel⟩

end Go.Proofs.Ytblhmeidbjigaaa

/- Reading a hint in the codec. -/
set_option linter.unusedSimpArgs false
set_option linter.unusedVariables false
namespace Go.Proofs.Ytblhmeidbjigaaa
open Go.RowKit

theorem Try.infoPair : (Try.prog.info? 96).map (fun i => (i.zero, i.size, i.bytes)) = some (some (.agg #[.int .i64 0, .int .i64 0]), 2, 16) := by kernel_rfl
theorem Try.infoPing : (Try.prog.info? 94).map (fun i => (i.zero, i.size, i.bytes)) = some (some (.agg #[.int .i64 0, .slice none 0 0]), 2, 32) := by kernel_rfl

/-- The pairs that are read from a place on. -/
def pairsAt (d : Int) (s : ByteArray) (next : Int) : Nat → List PairD
  | 0 => []
  | k + 1 => pairsAt d s next k ++ [⟨byteOr d s (next + 2 * k), byteOr d s (next + 2 * k + 1)⟩]

def pairCells (ps : List PairD) : List Value := ps.flatMap fun p => [.int .i64 p.reg, .int .i64 p.place]

theorem pairCells_snoc (ps : List PairD) (a b : Int) : pairCells (ps ++ [⟨a, b⟩]) = pairCells ps ++ [.int .i64 a, .int .i64 b] := by
  simp [pairCells]

theorem pairsAt_length (d : Int) (s : ByteArray) (next : Int) (k : Nat) : (pairsAt d s next k).length = k := by
  induction k with
  | zero => rfl
  | succ k ih => simp [pairsAt, ih]

theorem two_new (w : World) (x y : Value) (t : TypeId) : ∀ j u, [x, y][j]? = some u → (w.alloc (.cells #[x, y] t)).cell? ((⟨w.heap.size, 0, none⟩ : Addr).add j) = some u := by
  intro j u hj
  match j, hj with
  | 0, hj => simp at hj; subst hj; simp [Addr.add]
  | 1, hj => simp at hj; subst hj; simp [Addr.add]

theorem byteOr_bd (d : Int) (s : ByteArray) (i : Int) (hd : -1 ≤ d ∧ d ≤ 255) : -1 ≤ byteOr d s i ∧ byteOr d s i ≤ 255 := by
  unfold byteOr
  split
  · have := (s[i.toNat]!).toNat_lt; omega
  · exact hd

set_option maxHeartbeats 1000000 in
set_option maxRecDepth 100000 in
theorem pairingAt_any (s : ByteArray) (at_ : Int) (w : World) (hs : s.size ≤ maxLen) (ha : 0 ≤ at_) (ha2 : at_ ≤ 1000000) :
    Calls Try.prog 76 #[.string s, .int .i64 at_] w fun e w' => ∃ sv, e = .returned (.agg #[.int .i64 (byteOr (-1) s at_), sv]) ∧
      w'.ownsRow w.heap.size 96 2 sv (byteOr (-1) s (at_ + 1)).toNat (pairCells (pairsAt (-1) s (at_ + 2) (byteOr (-1) s (at_ + 1)).toNat)) ∧ Below w.heap.size w w' := by
  obtain ⟨i0, hi, hz0, hz1, hz2⟩ := info_parts Try.infoPair
  have hcb := byteOr_bd (-1) s (at_ + 1) (by omega)
  generalize hcn : byteOr (-1) s (at_ + 1) = c at *
  generalize hsn : byteOr (-1) s at_ = src at *
  go_enter Try.func76, Try.ntmps76
  go_wp2_with (go_at_call 69; refine (byteAt_any _ _ _ hs).mono ?_; rintro e w' ⟨rfl, rfl⟩)
  clear hcn hsn
  go_loopw [7, 8] (fun nx i wr => ∃ (k : Nat) (sv : Value), k ≤ c.toNat ∧ i = .int .i64 k ∧ nx = .int .i64 (at_ + 2 + 2 * k) ∧ wr.cell? ⟨w.heap.size + 1, 0, none⟩ = some (.int .i64 src) ∧ wr.cell? ⟨w.heap.size + 1, 1, none⟩ = some sv ∧
      wr.frozen? ⟨w.heap.size + 1, 1, none⟩ = false ∧ wr.ownsRow (w.heap.size + 2) 96 2 sv k (pairCells (pairsAt (-1) s (at_ + 2) k)) ∧ Below (w.heap.size + 1) (w.alloc (.cells #[.int .i64 0, .slice none 0 0] 94)) wr ∧ w.heap.size + 2 ≤ wr.heap.size)
    (fun _ i _ => c.toNat - (intOf i).toNat)
  case atStart =>
    refine ⟨0, .slice none 0 0, Nat.zero_le _, rfl, by simp, by simp, by simp, by simp, World.ownsRow_nil _ _ _ _, ?_, by simp⟩
    exact (Below.refl _ _).alloc (by simp) _
  case round =>
    obtain ⟨k, sv, hk, rfl, rfl, hx0, hx1, hxf, hown, hbel, hz⟩ := hrel
    obtain ⟨ao, cp, rfl⟩ := owns_slice hown
    have hzl : w.heap.size + 1 < wr.heap.size := by omega
    have hzm : w.heap.size < wr.heap.size := by omega
    have r0 : wr.cell? ⟨w.heap.size, 0, none⟩ = some (.int .i64 0) := (hbel.cell (by simp)).trans (by simp)
    have r1 : wr.cell? ⟨w.heap.size, 1, none⟩ = some (.slice none 0 0) := (hbel.cell (by simp)).trans (by simp)
    have rf0 : wr.frozen? ⟨w.heap.size, 0, none⟩ = false := (hbel.frozen (by simp)).trans (by simp)
    have rf1 : wr.frozen? ⟨w.heap.size, 1, none⟩ = false := (hbel.frozen (by simp)).trans (by simp)
    by_cases hlt : (k : Int) < c
    · have HS : Hid (pairsAt (-1) s (at_ + 2) (k + 1) = pairsAt (-1) s (at_ + 2) k ++ [⟨byteOr (-1) s (at_ + 2 + 2 * k), byteOr (-1) s (at_ + 2 + 2 * k + 1)⟩]) := rfl
      go_wp2_with (first | (go_at_call 69; refine (byteAt_any _ _ _ hs).mono ?_; rintro e w' ⟨rfl, rfl⟩) | (at_builtin; refine wpList_append_own _ rfl _ _ 92 rfl (w.heap.size + 2) 96 i0 (.agg #[.int .i64 0, .int .i64 0]) 2 16 Try.underlying92 hi hz0 hz1 hz2 rfl (by decide) _ _ _ rfl ((hown.alloc _).alloc _) ⟨wr.heap.size + 1, 0, none⟩ 1 1 [.int .i64 (byteOr (-1) s (at_ + 2 + 2 * k)), .int .i64 (byteOr (-1) s (at_ + 2 + 2 * k + 1))] rfl rfl ?c1 ?c2 ?c3 ?c4 ?c5 ?_))
      case c1 => simpa using two_new (wr.alloc _) _ _ _
      case c2 => intro u hu; simp at hu; rcases hu with rfl | rfl <;> rfl
      case c3 => unfold maxLen; omega
      case c4 => omega
      case c5 => simp; omega
      intro v' w1 hown' hgrow _
      rw [← pairCells_snoc, ← HS.out] at hown'
      have hb2 := ((((Below.refl (w.heap.size + 2) wr).alloc hz _).alloc (by simp; omega) _).grown hgrow (by simp; omega) (fun g hg => (hown.lt g hg).1))
      have y0 := (hb2.cell (p := ⟨w.heap.size + 1, 0, none⟩) (by simp)).trans hx0
      have y1 := (hb2.cell (p := ⟨w.heap.size + 1, 1, none⟩) (by simp)).trans hx1
      have yf := (hb2.frozen (p := ⟨w.heap.size + 1, 1, none⟩) (by simp)).trans hxf
      have hz2 := hb2.size
      have hb3 := (hbel.trans (hb2.mono (by omega)))
      obtain ⟨ao', cp', rfl⟩ := owns_slice hown'
      clear hgrow hown hx0 hx1 hxf r0 r1 rf0 rf1 hb2 hbel
      go_wp2
      go_roundw
      case rel =>
        refine ⟨k + 1, _, by omega, by go_num, by go_num, ?_, ?_, ?_, ownsRow_setCell_below hown' (by simp) _, hb3.setCell (by simp) _, by simp; omega⟩
        · exact cell_unset (by simp) y0
        · exact cell_set y1
        · simp [yf]
      case measure => simp [intOf]; omega
    · obtain rfl : k = c.toNat := by omega
      go_wp2
      refine bodyPost_ret (v := .agg #[.int .i64 src, .slice ao c.toNat cp]) (by simp [results, Try.results76, go_sem, r0, r1]) rfl ⟨_, rfl, ?_, ?_⟩
      · exact owns_base (ownsRow_setCell_below (ownsRow_setCell_below hown (by simp) _) (by simp) _) (by omega)
      · exact ((Below.under hbel).setCell (by simp) _).setCell (by simp) _

end Go.Proofs.Ytblhmeidbjigaaa
