/- Leaf functions of the codec: what each call gives. -/
import Derived.Test.YtblhmeidbjigaaaRows
import Derived.WalkKit
import Derived.WalkSpells
import Derived.WalkLawsBesides
import Derived.Laws.BytesArg
import Derived.Deep.QuietTactic
import Derived.BigQuiet

set_option linter.unusedSimpArgs false
set_option linter.unusedVariables false
namespace Go.Proofs.Ytblhmeidbjigaaa
open Go.RowKit

/-- isBelow -/
def below (a b : Int) : Bool := decide (0 ≤ a ∧ a < b)

/-- byteAt -/
def byteOr (d : Int) (s : ByteArray) (i : Int) : Int := if 0 ≤ i ∧ i < s.size then (s[i.toNat]!).toNat else d

def byt (n : Int) : UInt8 := UInt8.ofNat (n % 256).toNat

theorem wrap64_u8 (b : UInt8) : wrap64 (b.toNat : Int) = b.toNat := IntWalk.wrap64_in _ (by have := b.toNat_lt; omega)

theorem conv1 (w : World) (x : Int) : (convert 127 9 (.slice (some ⟨w.heap.size, 0, none⟩) 1 1)).run Try.prog (w.alloc (.cells #[.int .u8 x] 5)) = .ok (.string ⟨#[UInt8.ofNat x.toNat]⟩) (w.alloc (.cells #[.int .u8 x] 5)) := by
  refine run_convert_bytes_arg _ 127 5 Try.underlying127 Try.underlying5 _ 0 1 1 [x] rfl ?_ _ Try.underlying9
  intro i hi
  obtain rfl : i = 0 := by omega
  simp

theorem conv2 (w : World) (x y : Int) : (convert 127 9 (.slice (some ⟨w.heap.size, 0, none⟩) 2 2)).run Try.prog (w.alloc (.cells #[.int .u8 x, .int .u8 y] 5)) = .ok (.string ⟨#[UInt8.ofNat x.toNat, UInt8.ofNat y.toNat]⟩) (w.alloc (.cells #[.int .u8 x, .int .u8 y] 5)) := by
  refine run_convert_bytes_arg _ 127 5 Try.underlying127 Try.underlying5 _ 0 2 2 [x, y] rfl ?_ _ Try.underlying9
  intro i hi
  obtain rfl | rfl : i = 0 ∨ i = 1 := by omega
  all_goals simp

theorem conv4 (w : World) (x y z u : Int) : (convert 127 9 (.slice (some ⟨w.heap.size, 0, none⟩) 4 4)).run Try.prog (w.alloc (.cells #[.int .u8 x, .int .u8 y, .int .u8 z, .int .u8 u] 5)) = .ok (.string ⟨#[UInt8.ofNat x.toNat, UInt8.ofNat y.toNat, UInt8.ofNat z.toNat, UInt8.ofNat u.toNat]⟩) (w.alloc (.cells #[.int .u8 x, .int .u8 y, .int .u8 z, .int .u8 u] 5)) := by
  refine run_convert_bytes_arg _ 127 5 Try.underlying127 Try.underlying5 _ 0 4 4 [x, y, z, u] rfl ?_ _ Try.underlying9
  intro i hi
  obtain rfl | rfl | rfl | rfl : i = 0 ∨ i = 1 ∨ i = 2 ∨ i = 3 := by omega
  all_goals simp

set_option maxHeartbeats 400000 in
theorem isBelow_any (a b : Int) (w : World) :
    Calls Try.prog 87 #[.int .i64 a, .int .i64 b] w fun e w' => e = .returned (.bool (below a b)) ∧ w = w' := by
  by_cases h : 0 ≤ a
  · go_enter Try.func87, Try.ntmps87
    go_wp2
    go_ret
    exact ⟨by simp [below, h], rfl⟩
  · have hb : below a b = false := by simp only [below, h, false_and, decide_false]
    go_enter Try.func87, Try.ntmps87
    go_wp2
    go_ret
    exact ⟨rfl, rfl⟩

set_option maxHeartbeats 400000 in
theorem byteAt_any (s : ByteArray) (i : Int) (w : World) (hs : s.size ≤ maxLen) :
    Calls Try.prog 69 #[.string s, .int .i64 i] w fun e w' => e = .returned (.int .i64 (byteOr (-1) s i)) ∧ w = w' := by
  unfold maxLen at hs
  by_cases h : 0 ≤ i ∧ i < s.size
  · have hb : below i s.size = true := by simp [below, h]
    obtain ⟨h1, h2⟩ := h
    obtain ⟨n, rfl⟩ := Int.eq_ofNat_of_zero_le h1
    go_enter Try.func69, Try.ntmps69
    go_wp2_with (go_at_call 87; refine (isBelow_any _ _ _).mono ?_; rintro e w' ⟨rfl, rfl⟩)
    go_ret
    refine ⟨?_, rfl⟩
    simp [byteOr, h1, h2, getElem!_pos, show n < s.size by omega, wrap64_u8]
  · have hb : below i s.size = false := by simp only [below, h, decide_false]
    have hc : byteOr (-1) s i = -1 := by simp only [byteOr, h, if_false]
    go_enter Try.func69, Try.ntmps69
    go_wp2_with (go_at_call 87; refine (isBelow_any _ _ _).mono ?_; rintro e w' ⟨rfl, rfl⟩)
    go_ret
    exact ⟨by simp [hc], rfl⟩

set_option maxRecDepth 100000 in
set_option maxHeartbeats 400000 in
theorem oneByte_any (a : Int) (w : World) :
    Calls Try.prog 74 #[.int .i64 a] w fun e w' => e = .returned (.string ⟨#[byt a]⟩) ∧ Below w.heap.size w w' := by
  have hk := conv1 w
  go_enter Try.func74, Try.ntmps74
  go_wp2
  go_ret
  exact ⟨rfl, (Below.refl _ _).alloc (Nat.le_refl _) _⟩

set_option maxRecDepth 100000 in
set_option maxHeartbeats 400000 in
theorem twoBytes_any (a b : Int) (w : World) :
    Calls Try.prog 90 #[.int .i64 a, .int .i64 b] w fun e w' => e = .returned (.string ⟨#[byt a, byt b]⟩) ∧ Below w.heap.size w w' := by
  have hk := conv2 w
  go_enter Try.func90, Try.ntmps90
  go_wp2
  go_ret
  exact ⟨rfl, (Below.refl _ _).alloc (Nat.le_refl _) _⟩

set_option maxRecDepth 100000 in
set_option maxHeartbeats 400000 in
theorem fourBytes_any (a b c d : Int) (w : World) :
    Calls Try.prog 73 #[.int .i64 a, .int .i64 b, .int .i64 c, .int .i64 d] w fun e w' => e = .returned (.string ⟨#[byt a, byt b, byt c, byt d]⟩) ∧ Below w.heap.size w w' := by
  have hk := conv4 w
  go_enter Try.func73, Try.ntmps73
  go_wp2
  go_ret
  exact ⟨rfl, (Below.refl _ _).alloc (Nat.le_refl _) _⟩

end Go.Proofs.Ytblhmeidbjigaaa

/- Leaf functions of the document's answer: what each call gives. -/
set_option linter.unusedSimpArgs false
set_option linter.unusedVariables false
namespace Go.Proofs.Ytblhmeidbjigaaa
open Go.RowKit

/-- The first k numbers as bytes in cells. -/
def rowB (xs : List Int) (k : Nat) : List Value := (xs.take k).map fun n => Value.int .u8 (n % 256)

end Go.Proofs.Ytblhmeidbjigaaa

/- Hints and programs as plain data; how they lie in memory. -/
set_option linter.unusedSimpArgs false
set_option linter.unusedVariables false
namespace Go.Proofs.Ytblhmeidbjigaaa
open Go.RowKit

/-! ### Plain data -/

structure PairD where
  reg : Int
  place : Int

structure PingD where
  src : Int
  pairs : List PairD

def pz : PairD := ⟨0, 0⟩
def hz : PingD := ⟨0, []⟩

def preg (ps : List PairD) (k : Nat) : Int := (ps.getD k pz).reg
def pplace (ps : List PairD) (k : Nat) : Int := (ps.getD k pz).place
def hsrc (h : List PingD) (k : Nat) : Int := (h.getD k hz).src
def hpairs (h : List PingD) (k : Nat) : List PairD := (h.getD k hz).pairs

/-! ### Well made hints -/

def goodPairs : Int → List PairD → Bool
  | _, [] => true
  | last, p :: r => below p.reg 8 && below p.place 16 && decide (last < p.place) && goodPairs p.place r

def goodPing (x : PingD) : Bool := below x.src 6 && decide (x.pairs.length ≤ 16) && goodPairs (-1) x.pairs

def goodPings (h : List PingD) : Bool := h.all goodPing

def goodHint (h : List PingD) : Bool := decide (1 ≤ h.length ∧ h.length ≤ 6) && goodPings h

def gFrom (ps : List PairD) (last : Int) (k : Nat) : Bool := goodPairs last (ps.drop k)

theorem drop_getD {α : Type} (l : List α) (d : α) (k : Nat) (h : k < l.length) : l.drop k = l.getD k d :: l.drop (k + 1) := by
  rw [List.drop_eq_getElem_cons h]; simp [h]

theorem gFrom_end {ps : List PairD} {last : Int} {k : Nat} (h : ps.length ≤ k) : gFrom ps last k = true := by
  unfold gFrom; rw [List.drop_of_length_le h]; rfl

theorem gFrom_step {ps : List PairD} {last : Int} {k : Nat} (h : k < ps.length) :
    gFrom ps last k = (below (preg ps k) 8 && below (pplace ps k) 16 && decide (last < pplace ps k) && gFrom ps (pplace ps k) (k + 1)) := by
  unfold gFrom; rw [drop_getD ps pz k h]; rfl

def gpFrom (h : List PingD) (k : Nat) : Bool := goodPings (h.drop k)

theorem gpFrom_end {h : List PingD} {k : Nat} (hk : h.length ≤ k) : gpFrom h k = true := by
  unfold gpFrom; rw [List.drop_of_length_le hk]; rfl

theorem gpFrom_step {h : List PingD} {k : Nat} (hk : k < h.length) : gpFrom h k = (goodPing ⟨hsrc h k, hpairs h k⟩ && gpFrom h (k + 1)) := by
  unfold gpFrom; rw [drop_getD h hz k hk]; rfl

/-! ### How they lie in memory -/

/-- The slice value v reads as the pairs ps. -/
def RdPairs (w : World) (v : Value) (ps : List PairD) : Prop :=
  ∃ ao cap, v = .slice ao ps.length cap ∧ ps.length ≤ 9223372036854775807 ∧ ∀ i, i < ps.length → ∃ b off, ao = some ⟨b, off, none⟩ ∧
    w.cell? ⟨b, off + i * 2, none⟩ = some (.int .i64 (preg ps i)) ∧ w.cell? ⟨b, off + i * 2 + 1, none⟩ = some (.int .i64 (pplace ps i))

/-- The slice value v reads as the hint's blocks h. -/
def RdHint (w : World) (v : Value) (h : List PingD) : Prop :=
  ∃ ao cap, v = .slice ao h.length cap ∧ h.length ≤ 9223372036854775807 ∧ ∀ i, i < h.length → ∃ b off sv, ao = some ⟨b, off, none⟩ ∧
    w.cell? ⟨b, off + i * 2, none⟩ = some (.int .i64 (hsrc h i)) ∧ w.cell? ⟨b, off + i * 2 + 1, none⟩ = some sv ∧ RdPairs w sv (hpairs h i)

theorem cell_keep {w w' : World} (hb : Below w.heap.size w w') {a : Addr} {v : Value} (h : w.cell? a = some v) : w'.cell? a = some v :=
  (hb.cell (World.block_lt_of_cell? w a h)).trans h

theorem RdPairs.keep {w w' : World} {v : Value} {ps : List PairD} (h : RdPairs w v ps) (hb : Below w.heap.size w w') : RdPairs w' v ps := by
  obtain ⟨ao, cap, rfl, hl, hc⟩ := h
  exact ⟨ao, cap, rfl, hl, fun i hi => let ⟨b, off, e, h1, h2⟩ := hc i hi; ⟨b, off, e, cell_keep hb h1, cell_keep hb h2⟩⟩

theorem RdHint.keep {w w' : World} {v : Value} {h : List PingD} (hr : RdHint w v h) (hb : Below w.heap.size w w') : RdHint w' v h := by
  obtain ⟨ao, cap, rfl, hl, hc⟩ := hr
  exact ⟨ao, cap, rfl, hl, fun i hi => let ⟨b, off, sv, e, h1, h2, h3⟩ := hc i hi; ⟨b, off, sv, e, cell_keep hb h1, cell_keep hb h2, h3.keep hb⟩⟩

/-- A frame that opened with one new block. -/
theorem Below.under {w w' : World} {o : Obj} (h : Below (w.heap.size + 1) (w.alloc o) w') : Below w.heap.size w w' :=
  ((Below.refl w.heap.size w).alloc (Nat.le_refl _) o).trans (h.mono (by omega))

/-! ### A region whose order is open, its calls making memory: any world that keeps what lay below B -/

structure Past (B : Nat) (w : World) where
  wd : World
  ok : Below B w wd

theorem wp_region_past {P : Program} {id : Nat} {Q : Exit → Act → World → Prop} {a : Act} {w : World} {l : List Oper} (B : Nat) (hm : P.follows .mixedOrders = true) (hB : Region.lexB .any l.toArray = true)
    (h : wpQuiet P l.toArray (fun w' => ∃ x : Past B w, w' = x.wd) (fun a' => ∀ w', (∃ x : Past B w, w' = x.wd) → Q .normal a' w') l a) : (Code.region id l.toArray true).wp P Q a w :=
  wp_region_quiet (C := fun w' => ∃ x : Past B w, w' = x.wd) hm hB ⟨⟨w.drew, (Below.refl B w).drew⟩, rfl⟩ (by simpa using h)

theorem Calls.past_of {P : Program} {f : FuncId} {args : Array Value} {w : World} {B : Nat} {x : Past B w} {v : Value} (hB : B ≤ w.heap.size)
    (h : Calls P f args x.wd fun e w' => e = .returned v ∧ Below x.wd.heap.size x.wd w') : Calls P f args x.wd fun e w'' => e = .returned v ∧ ∃ y : Past B w, w'' = y.wd :=
  h.mono fun _ w' ⟨he, hb⟩ => ⟨he, ⟨w', x.ok.trans (hb.mono (Nat.le_trans hB x.ok.size))⟩, rfl⟩

theorem Past.any (B : Nat) (w : World) : Nonempty (Past B w) := ⟨⟨w, Below.refl B w⟩⟩

theorem Past.cell {w : World} (x : Past w.heap.size w) {a : Addr} {v : Value} (h : w.cell? a = some v) : x.wd.cell? a = some v := cell_keep x.ok h

theorem owns_slice {w : World} {base : Nat} {e : TypeId} {size : Nat} {v : Value} {n : Nat} {xs : List Value} (h : w.ownsRow base e size v n xs) : ∃ ao cap, v = .slice ao n cap := by
  rcases h.2 with ⟨rfl, rfl⟩ | ⟨g, cap, cur, rfl, _⟩
  · exact ⟨_, _, rfl⟩
  · exact ⟨_, _, rfl⟩

theorem owns_base {w : World} {base base' : Nat} {e : TypeId} {size : Nat} {v : Value} {n : Nat} {xs : List Value} (h : w.ownsRow base e size v n xs) (hb : base' ≤ base) : w.ownsRow base' e size v n xs := by
  refine ⟨h.1, ?_⟩
  rcases h.2 with h2 | ⟨g, cap, cur, hv, hg, r⟩
  · exact .inl h2
  · exact .inr ⟨g, cap, cur, hv, Nat.le_trans hb hg, r⟩

theorem cell_set {w : World} {a : Addr} {u v : Value} (h : w.cell? a = some u) : (w.setCell a v).cell? a = some v := World.cell?_setCell_same _ _ _ h

theorem cell_unset {w : World} {a b : Addr} {u v : Value} (hn : a ≠ b) (h : w.cell? b = some u) : (w.setCell a v).cell? b = some u := (World.cell?_setCell_other _ _ _ _ hn).trans h

/-! ### Texts -/

def pairsText (ps : List PairD) : List UInt8 := ps.flatMap fun p => [byt p.reg, byt p.place]

def pingText (x : PingD) : List UInt8 := [byt x.src, byt x.pairs.length] ++ pairsText x.pairs

def hintText (h : List PingD) : List UInt8 := [84, 72, byt h.length] ++ h.flatMap pingText

/-- A text out of bytes. -/
def str (l : List UInt8) : ByteArray := ⟨l.toArray⟩

theorem str_append (a b : List UInt8) : str a ++ str b = str (a ++ b) := by
  apply ByteArray.ext
  simp [str]

/-- The text of a pairing, as far as its first k pairs. -/
def pingTo (src : Int) (ps : List PairD) (k : Nat) : ByteArray := str ([byt src, byt ps.length] ++ pairsText (ps.take k))

theorem take_getD {α : Type} (l : List α) (d : α) (k : Nat) (h : k < l.length) : l.take (k + 1) = l.take k ++ [l.getD k d] := by
  rw [List.take_succ_eq_append_getElem h]; simp [h]

theorem pingTo_step {src : Int} {ps : List PairD} {k : Nat} (h : k < ps.length) : pingTo src ps (k + 1) = pingTo src ps k ++ ⟨#[byt (preg ps k), byt (pplace ps k)]⟩ := by
  show _ = str _ ++ str [_, _]
  rw [str_append]
  simp [pingTo, pairsText, take_getD ps pz k h, preg, pplace]

theorem pingTo_end {src : Int} {ps : List PairD} {k : Nat} (h : ps.length ≤ k) : pingTo src ps k = str (pingText ⟨src, ps⟩) := by
  simp [pingTo, pingText, List.take_of_length_le h]

/-- The text of a hint, as far as its first k blocks. -/
def hintTo (h : List PingD) (k : Nat) : ByteArray := str ([84, 72, byt h.length] ++ (h.take k).flatMap pingText)

theorem hintTo_step {h : List PingD} {k : Nat} (hk : k < h.length) : hintTo h (k + 1) = hintTo h k ++ str (pingText ⟨hsrc h k, hpairs h k⟩) := by
  unfold hintTo
  rw [str_append, take_getD h hz k hk, List.flatMap_append, List.append_assoc]
  simp [hsrc, hpairs]

theorem hintTo_end {h : List PingD} {k : Nat} (hk : h.length ≤ k) : hintTo h k = str (hintText h) := by
  simp [hintTo, hintText, List.take_of_length_le hk]

theorem pairsText_length (ps : List PairD) : (pairsText ps).length = 2 * ps.length := by
  induction ps with
  | nil => rfl
  | cons p r ih => simp only [pairsText, List.flatMap_cons, List.length_append, List.length_cons, List.length_nil] at *; omega

theorem pingTo_size (src : Int) (ps : List PairD) (k : Nat) (h : k ≤ ps.length) : (pingTo src ps k).size = 2 + 2 * k := by
  simp [pingTo, str, ByteArray.size, pairsText_length, List.length_take, Nat.min_eq_left h]
  omega

theorem goodHint_len {h : List PingD} (hg : goodHint h = true) : 1 ≤ h.length ∧ h.length ≤ 6 := by
  simp [goodHint] at hg; omega

theorem goodHint_ping {h : List PingD} (hg : goodHint h = true) (x : PingD) (hx : x ∈ h) : goodPing x = true := by
  simp [goodHint, goodPings] at hg; exact hg.2 x hx

theorem getD_mem' {α : Type} {l : List α} {d : α} {k : Nat} (h : k < l.length) : l.getD k d ∈ l := by
  simp [h]

theorem goodHint_pairs {h : List PingD} (hg : goodHint h = true) {k : Nat} (hk : k < h.length) : (hpairs h k).length ≤ 16 := by
  have := goodHint_ping hg (h.getD k hz) (getD_mem' hk)
  simp [goodPing] at this
  exact this.1.2

theorem pingText_length (x : PingD) : (pingText x).length = 2 + 2 * x.pairs.length := by
  simp [pingText, pairsText_length]; omega

theorem flat_le {l : List PingD} (h : ∀ x ∈ l, x.pairs.length ≤ 16) : (l.flatMap pingText).length ≤ 34 * l.length := by
  induction l with
  | nil => simp
  | cons x r ih =>
    have h1 := h x (by simp)
    have h2 := ih (fun y hy => h y (by simp [hy]))
    simp only [List.flatMap_cons, List.length_append, pingText_length, List.length_cons]
    omega

theorem hintTo_size {h : List PingD} (hg : goodHint h = true) (k : Nat) : (hintTo h k).size ≤ 210 := by
  have h1 := goodHint_len hg
  have h2 := flat_le (l := h.take k) (fun x hx => by
    have := goodHint_ping hg x (List.mem_of_mem_take hx)
    simp [goodPing] at this
    exact this.1.2)
  have h3 : (h.take k).length ≤ 6 := Nat.le_trans (List.length_take_le' _ _) h1.2
  have e : (hintTo h k).size = 3 + ((h.take k).flatMap pingText).length := by
    simp [hintTo, str, ByteArray.size]; omega
  omega

end Go.Proofs.Ytblhmeidbjigaaa

/- Hints in the codec: what each call gives. -/
set_option linter.unusedSimpArgs false
set_option linter.unusedVariables false
namespace Go.Proofs.Ytblhmeidbjigaaa
open Go.RowKit

set_option maxHeartbeats 1000000 in
theorem wmPairing_any (src : Int) (sv : Value) (ps : List PairD) (w : World) (hr : RdPairs w sv ps) :
    Calls Try.prog 89 #[.agg #[.int .i64 src, sv]] w fun e w' => e = .returned (.bool (goodPing ⟨src, ps⟩)) ∧ Below w.heap.size w w' := by
  obtain ⟨ao, cap, rfl, hl, hc⟩ := hr
  obtain ⟨G, hG⟩ : ∃ G, goodPing ⟨src, ps⟩ = G := ⟨_, rfl⟩
  rw [hG]
  cases h1 : below src 6
  · have hGf : G = false := by rw [← hG]; simp [goodPing, h1]
    subst hGf
    clear hG
    go_enter Try.func89, Try.ntmps89
    go_wp2_with (go_at_call 87; refine (isBelow_any _ _ _).mono ?_; rintro e w' ⟨rfl, rfl⟩)
    go_ret
    exact ⟨rfl, (Below.refl _ _).alloc (Nat.le_refl _) _⟩
  by_cases h2 : (16 : Int) < ps.length
  · have hGf : G = false := by rw [← hG]; simp [goodPing, h1]; omega
    subst hGf
    clear hG
    go_enter Try.func89, Try.ntmps89
    go_wp2_with (go_at_call 87; refine (isBelow_any _ _ _).mono ?_; rintro e w' ⟨rfl, rfl⟩)
    go_ret
    exact ⟨rfl, (Below.refl _ _).alloc (Nat.le_refl _) _⟩
  have HG : Hid (G = gFrom ps (-1) 0) := by show G = _; rw [← hG]; simp [goodPing, h1, gFrom, show ps.length ≤ 16 by omega]
  clear hG
  go_enter Try.func89, Try.ntmps89
  go_wp2_with (go_at_call 87; refine (isBelow_any _ _ _).mono ?_; rintro e w' ⟨rfl, rfl⟩)
  go_loopw [3, 4] (fun l i wr => ∃ (k : Nat) (last : Int), k ≤ ps.length ∧ i = .int .i64 k ∧ l = .int .i64 last ∧ Hid (G = gFrom ps last k) ∧ Below (w.heap.size + 1) (w.alloc (.cells #[.int .i64 src, .slice ao ps.length cap] 94)) wr)
    (fun _ i _ => ps.length - (intOf i).toNat)
  case atStart => exact ⟨0, -1, Nat.zero_le _, rfl, rfl, HG, Below.refl _ _⟩
  case round =>
    obtain ⟨k, last, hk, rfl, rfl, hg, hbel⟩ := hrel
    have hx0 : wr.cell? ⟨w.heap.size, 0, none⟩ = some (.int .i64 src) := (hbel.cell (by simp)).trans (by simp)
    have hx1 : wr.cell? ⟨w.heap.size, 1, none⟩ = some (.slice ao ps.length cap) := (hbel.cell (by simp)).trans (by simp)
    have hz := hbel.size
    by_cases hlt : k < ps.length
    · obtain ⟨b, off, rfl, hc1, hc2⟩ := hc k hlt
      have hd1 := cell_keep (Below.under hbel) hc1
      have hd2 := cell_keep (Below.under hbel) hc2
      have HS : Hid (gFrom ps last k = (below (preg ps k) 8 && below (pplace ps k) 16 && decide (last < pplace ps k) && gFrom ps (pplace ps k) (k + 1))) := gFrom_step hlt
      cases h3 : below (preg ps k) 8
      · have hGf : G = false := by rw [hg.out, HS.out, h3]; rfl
        subst hGf
        clear hg HS HG
        go_wp2_with (go_at_call 87; refine (isBelow_any _ _ _).mono ?_; rintro e w' ⟨rfl, rfl⟩)
        go_ret
        exact ⟨rfl, (Below.under hbel).alloc (by simp at hz; omega) _⟩
      cases h4 : below (pplace ps k) 16
      · have hGf : G = false := by rw [hg.out, HS.out, h3, h4]; rfl
        subst hGf
        clear hg HS HG
        go_wp2_with (go_at_call 87; refine (isBelow_any _ _ _).mono ?_; rintro e w' ⟨rfl, rfl⟩)
        go_ret
        exact ⟨rfl, (Below.under hbel).alloc (by simp at hz; omega) _⟩
      by_cases h5 : last < pplace ps k
      · have hG' : Hid (G = gFrom ps (pplace ps k) (k + 1)) := by show G = _; rw [hg.out, HS.out, h3, h4]; simp [h5]
        clear hg HS HG
        go_wp2_with (go_at_call 87; refine (isBelow_any _ _ _).mono ?_; rintro e w' ⟨rfl, rfl⟩)
        go_roundw
        case rel => exact ⟨k + 1, _, by omega, by go_num, rfl, hG', hbel.alloc (by simp at hz; omega) _⟩
        case measure => simp [intOf]; omega
      · have hGf : G = false := by rw [hg.out, HS.out, h3, h4]; simp [h5]
        subst hGf
        clear hg HS HG
        go_wp2_with (go_at_call 87; refine (isBelow_any _ _ _).mono ?_; rintro e w' ⟨rfl, rfl⟩)
        go_ret
        exact ⟨rfl, (Below.under hbel).alloc (by simp at hz; omega) _⟩
    · have hGt : G = true := by rw [hg.out, gFrom_end (by omega)]
      subst hGt
      clear hg HG
      go_wp2
      go_ret
      exact ⟨rfl, Below.under hbel⟩

set_option maxHeartbeats 1000000 in
theorem wmHint_any (v : Value) (h : List PingD) (w : World) (hr : RdHint w v h) :
    Calls Try.prog 78 #[.agg #[v]] w fun e w' => e = .returned (.bool (goodHint h)) ∧ Below w.heap.size w w' := by
  have hr0 := hr
  obtain ⟨ao, cap, rfl, hl, hc⟩ := hr
  obtain ⟨G, hG⟩ : ∃ G, goodHint h = G := ⟨_, rfl⟩
  rw [hG]
  by_cases h1 : (h.length : Int) < 1
  · have hGf : G = false := by rw [← hG]; simp [goodHint]; omega
    subst hGf
    clear hG
    go_enter Try.func78, Try.ntmps78
    go_wp2
    go_ret
    exact ⟨rfl, (Below.refl _ _).alloc (Nat.le_refl _) _⟩
  by_cases h2 : (6 : Int) < h.length
  · have hGf : G = false := by rw [← hG]; simp [goodHint]; omega
    subst hGf
    clear hG
    go_enter Try.func78, Try.ntmps78
    go_wp2
    go_ret
    exact ⟨rfl, (Below.refl _ _).alloc (Nat.le_refl _) _⟩
  have HG : Hid (G = gpFrom h 0) := by show G = _; rw [← hG]; simp [goodHint, gpFrom, show 1 ≤ h.length ∧ h.length ≤ 6 by omega]
  clear hG
  go_enter Try.func78, Try.ntmps78
  go_wp2
  go_loopw [3] (fun i wr => ∃ (k : Nat), k ≤ h.length ∧ i = .int .i64 k ∧ Hid (G = gpFrom h k) ∧ Below (w.heap.size + 1) (w.alloc (.cells #[.slice ao h.length cap] 31)) wr)
    (fun i _ => h.length - (intOf i).toNat)
  case atStart => exact ⟨0, Nat.zero_le _, rfl, HG, Below.refl _ _⟩
  case round =>
    obtain ⟨k, hk, rfl, hg, hbel⟩ := hrel
    have hx0 : wr.cell? ⟨w.heap.size, 0, none⟩ = some (.slice ao h.length cap) := (hbel.cell (by simp)).trans (by simp)
    have hz := hbel.size
    by_cases hlt : k < h.length
    · obtain ⟨b, off, sv, rfl, hc1, hc2, hc3⟩ := hc k hlt
      have hd1 := cell_keep (Below.under hbel) hc1
      have hd2 := cell_keep (Below.under hbel) hc2
      have hd3 := hc3.keep (Below.under hbel)
      have HS : Hid (gpFrom h k = (goodPing ⟨hsrc h k, hpairs h k⟩ && gpFrom h (k + 1))) := gpFrom_step hlt
      cases h3 : goodPing ⟨hsrc h k, hpairs h k⟩
      · have hGf : G = false := by rw [hg.out, HS.out, h3]; rfl
        subst hGf
        clear hg HS HG
        go_wp2_with fail
        refine (wmPairing_any _ _ _ _ hd3).mono ?_
        rintro e w' ⟨rfl, hb2⟩
        go_wp2
        go_ret
        exact ⟨rfl, (Below.under hbel).trans (hb2.mono (by simp at hz; omega))⟩
      · have hG' : Hid (G = gpFrom h (k + 1)) := by show G = _; rw [hg.out, HS.out, h3]; rfl
        clear hg HS HG
        go_wp2_with fail
        refine (wmPairing_any _ _ _ _ hd3).mono ?_
        rintro e w' ⟨rfl, hb2⟩
        go_wp2
        go_roundw
        case rel => exact ⟨k + 1, by omega, by go_num, hG', hbel.trans (hb2.mono (by simp at hz; omega))⟩
        case measure => simp [intOf]; omega
    · have hGt : G = true := by rw [hg.out, gpFrom_end (by omega)]
      subst hGt
      clear hg HG
      go_wp2
      go_ret
      exact ⟨rfl, Below.under hbel⟩

end Go.Proofs.Ytblhmeidbjigaaa

/- The text of a hint in the codec. -/
set_option linter.unusedSimpArgs false
set_option linter.unusedVariables false
namespace Go.Proofs.Ytblhmeidbjigaaa
open Go.RowKit

set_option maxHeartbeats 1000000 in
theorem pairingText_any (src : Int) (sv : Value) (ps : List PairD) (w : World) (hr : RdPairs w sv ps) (hn : ps.length ≤ 16) :
    Calls Try.prog 79 #[.agg #[.int .i64 src, sv]] w fun e w' => e = .returned (.string (str (pingText ⟨src, ps⟩))) ∧ Below w.heap.size w w' := by
  obtain ⟨ao, cap, rfl, hl, hc⟩ := hr
  obtain ⟨G, hG⟩ : ∃ G, str (pingText ⟨src, ps⟩) = G := ⟨_, rfl⟩
  rw [hG]
  have HG : Hid (str (pingText ⟨src, ps⟩) = G) := hG
  clear hG
  go_enter Try.func79, Try.ntmps79
  go_wp2_with fail
  refine (twoBytes_any _ _ _).mono ?_
  rintro e w1 ⟨rfl, hb1⟩
  have h0 : (⟨#[byt src, byt ps.length]⟩ : ByteArray) = pingTo src ps 0 := rfl
  rw [h0]
  have hb1' : Below (w.heap.size + 1) (w.alloc (.cells #[.int .i64 src, .slice ao ps.length cap] 94)) w1 := by simpa using hb1
  clear hb1 h0
  go_wp2
  go_loopw [3, 4] (fun l i wr => ∃ (k : Nat), k ≤ ps.length ∧ i = .int .i64 k ∧ l = .string (pingTo src ps k) ∧ Below (w.heap.size + 1) (w.alloc (.cells #[.int .i64 src, .slice ao ps.length cap] 94)) wr)
    (fun _ i _ => ps.length - (intOf i).toNat)
  case atStart => exact ⟨0, Nat.zero_le _, rfl, rfl, hb1'⟩
  case round =>
    obtain ⟨k, hk, rfl, rfl, hbel⟩ := hrel
    have hx1 : wr.cell? ⟨w.heap.size, 1, none⟩ = some (.slice ao ps.length cap) := (hbel.cell (by simp)).trans (by simp)
    have hz := hbel.size
    by_cases hlt : k < ps.length
    · obtain ⟨b, off, rfl, hc1, hc2⟩ := hc k hlt
      have hd1 := cell_keep (Below.under hbel) hc1
      have hd2 := cell_keep (Below.under hbel) hc2
      have q0 := fun x : Past wr.heap.size wr => x.cell hx1
      have q1 := fun x : Past wr.heap.size wr => x.cell hd1
      have q2 := fun x : Past wr.heap.size wr => x.cell hd2
      have hsz : (pingTo src ps k).size ≤ 100 := by rw [pingTo_size _ _ _ hk]; omega
      have np := Past.any wr.heap.size wr
      go_wp2
      refine wp_region_past wr.heap.size (by kernel_rfl) (by kernel_rfl) ?_
      repeat (go_big_quiet_step (exact Calls.past_of (Nat.le_refl _) (twoBytes_any _ _ _)))
      refine wpQuiet_nil ?_
      rintro _ ⟨x, rfl⟩
      have hb2 := hbel.trans (x.ok.mono (by simp at hz; omega))
      clear q0 q1 q2 np hd1 hd2 hx1
      have HS : Hid (pingTo src ps (k + 1) = pingTo src ps k ++ ⟨#[byt (preg ps k), byt (pplace ps k)]⟩) := pingTo_step hlt
      go_wp2
      go_roundw
      case rel => exact ⟨k + 1, by omega, by go_num, by rw [HS.out], hb2⟩
      case measure => simp [intOf]; omega
    · have he : pingTo src ps k = G := (pingTo_end (by omega)).trans HG.out
      go_wp2
      go_ret
      exact ⟨by simp [he], Below.under hbel⟩

set_option maxHeartbeats 1000000 in
theorem cEncodeHint_any (v : Value) (h : List PingD) (w : World) (hr : RdHint w v h) :
    Calls Try.prog 51 #[.agg #[v]] w fun e w' => e = .returned (.tuple (if goodHint h then #[.string (str (hintText h)), .int .i64 0] else #[.string ⟨#[]⟩, .int .i64 2])) ∧ Below w.heap.size w w' := by
  have hr0 := hr
  obtain ⟨ao, cap, rfl, hl, hc⟩ := hr
  cases hg : goodHint h
  · go_enter Try.func51, Try.ntmps51
    go_wp2_with fail
    refine (wmHint_any _ _ _ (hr0.keep ((Below.refl _ _).alloc (Nat.le_refl _) _))).mono ?_
    rintro e w1 ⟨rfl, hb1⟩
    go_wp2
    go_ret2
    exact ⟨by simp [hg], ((Below.refl _ _).alloc (Nat.le_refl _) _).trans (hb1.mono (by simp))⟩
  · obtain ⟨G, hG⟩ : ∃ G, str (hintText h) = G := ⟨_, rfl⟩
    rw [hG]
    have HG : Hid (str (hintText h) = G) := hG
    clear hG
    have hlen := (goodHint_len hg).2
    go_enter Try.func51, Try.ntmps51
    go_wp2_with fail
    refine (wmHint_any _ _ _ (hr0.keep ((Below.refl _ _).alloc (Nat.le_refl _) _))).mono ?_
    rintro e w1 ⟨rfl, hb1⟩
    have hb1' : Below (w.heap.size + 1) (w.alloc (.cells #[.slice ao h.length cap] 31)) w1 := by simpa using hb1
    clear hb1
    have hx1 : w1.cell? ⟨w.heap.size, 0, none⟩ = some (.slice ao h.length cap) := (hb1'.cell (by simp)).trans (by simp)
    go_wp2_with fail
    refine (oneByte_any _ _).mono ?_
    rintro e w2 ⟨rfl, hb2⟩
    have hz1 := hb1'.size
    have hb2' := hb1'.trans (hb2.mono (by simpa using hz1))
    clear hx1 hb1' hb2 hz1
    have h0 : (⟨#[84, 72]⟩ : ByteArray) ++ ⟨#[byt h.length]⟩ = hintTo h 0 := by
      show str [84, 72] ++ str [byt h.length] = _
      rw [str_append]; rfl
    go_wp2
    go_loopw [4, 5] (fun l i wr => ∃ (k : Nat), k ≤ h.length ∧ i = .int .i64 k ∧ l = .string (hintTo h k) ∧ Below (w.heap.size + 1) (w.alloc (.cells #[.slice ao h.length cap] 31)) wr)
      (fun _ i _ => h.length - (intOf i).toNat)
    case atStart => exact ⟨0, Nat.zero_le _, rfl, by rw [← h0], hb2'⟩
    case round =>
      obtain ⟨k, hk, rfl, rfl, hbel⟩ := hrel
      clear h0
      have hx1 : wr.cell? ⟨w.heap.size, 0, none⟩ = some (.slice ao h.length cap) := (hbel.cell (by simp)).trans (by simp)
      have hz := hbel.size
      by_cases hlt : k < h.length
      · obtain ⟨b, off, sv, rfl, hc1, hc2, hc3⟩ := hc k hlt
        have hd1 := cell_keep (Below.under hbel) hc1
        have hd2 := cell_keep (Below.under hbel) hc2
        have hd3 := hc3.keep (Below.under hbel)
        have hsz := hintTo_size hg k
        have hpl := goodHint_pairs hg hlt
        have hsz2 : (str (pingText ⟨hsrc h k, hpairs h k⟩)).size ≤ 100 := by simp [str, ByteArray.size, pingText_length]; omega
        have HS : Hid (hintTo h (k + 1) = hintTo h k ++ str (pingText ⟨hsrc h k, hpairs h k⟩)) := hintTo_step hlt
        go_wp2_with fail
        refine (pairingText_any _ _ _ _ hd3 hpl).mono ?_
        rintro e w3 ⟨rfl, hb3⟩
        have hb4 := hbel.trans (hb3.mono (by simpa using hz))
        go_wp2
        go_roundw
        case rel => exact ⟨k + 1, by omega, by go_num, by rw [HS.out], hb4⟩
        case measure => simp [intOf]; omega
      · have he : hintTo h k = G := (hintTo_end (by omega)).trans HG.out
        go_wp2
        go_ret2
        exact ⟨by simp [he], Below.under hbel⟩

end Go.Proofs.Ytblhmeidbjigaaa

/- Reading a hint in the codec. -/
set_option linter.unusedSimpArgs false
set_option linter.unusedVariables false
namespace Go.Proofs.Ytblhmeidbjigaaa
open Go.RowKit

theorem Try.infoPair : (Try.prog.info? 96).map (fun i => (i.zero, i.size, i.bytes)) = some (some (.agg #[.int .i64 0, .int .i64 0]), 2, 16) := by kernel_rfl
theorem Try.infoPing : (Try.prog.info? 94).map (fun i => (i.zero, i.size, i.bytes)) = some (some (.agg #[.int .i64 0, .slice none 0 0]), 2, 32) := by kernel_rfl

/-- The pairs that are read from a place on. -/
def pairsAt (d : Int) (s : ByteArray) (next : Int) : Nat → List PairD
  | 0 => []
  | k + 1 => pairsAt d s next k ++ [⟨byteOr d s (next + 2 * k), byteOr d s (next + 2 * k + 1)⟩]

def pairCells (ps : List PairD) : List Value := ps.flatMap fun p => [.int .i64 p.reg, .int .i64 p.place]

theorem pairCells_snoc (ps : List PairD) (a b : Int) : pairCells (ps ++ [⟨a, b⟩]) = pairCells ps ++ [.int .i64 a, .int .i64 b] := by
  simp [pairCells]

theorem pairsAt_length (d : Int) (s : ByteArray) (next : Int) (k : Nat) : (pairsAt d s next k).length = k := by
  induction k with
  | zero => rfl
  | succ k ih => simp [pairsAt, ih]

theorem two_new (w : World) (x y : Value) (t : TypeId) : ∀ j u, [x, y][j]? = some u → (w.alloc (.cells #[x, y] t)).cell? ((⟨w.heap.size, 0, none⟩ : Addr).add j) = some u := by
  intro j u hj
  match j, hj with
  | 0, hj => simp at hj; subst hj; simp [Addr.add]
  | 1, hj => simp at hj; subst hj; simp [Addr.add]

theorem byteOr_bd (d : Int) (s : ByteArray) (i : Int) (hd : -1 ≤ d ∧ d ≤ 255) : -1 ≤ byteOr d s i ∧ byteOr d s i ≤ 255 := by
  unfold byteOr
  split
  · have := (s[i.toNat]!).toNat_lt; omega
  · exact hd

set_option maxHeartbeats 1000000 in
set_option maxRecDepth 100000 in
theorem pairingAt_any (s : ByteArray) (at_ : Int) (w : World) (hs : s.size ≤ maxLen) (ha : 0 ≤ at_) (ha2 : at_ ≤ 1000000) :
    Calls Try.prog 76 #[.string s, .int .i64 at_] w fun e w' => ∃ sv, e = .returned (.agg #[.int .i64 (byteOr (-1) s at_), sv]) ∧
      w'.ownsRow w.heap.size 96 2 sv (byteOr (-1) s (at_ + 1)).toNat (pairCells (pairsAt (-1) s (at_ + 2) (byteOr (-1) s (at_ + 1)).toNat)) ∧ Below w.heap.size w w' := by
  obtain ⟨i0, hi, hz0, hz1, hz2⟩ := info_parts Try.infoPair
  have hcb := byteOr_bd (-1) s (at_ + 1) (by omega)
  generalize hcn : byteOr (-1) s (at_ + 1) = c at *
  generalize hsn : byteOr (-1) s at_ = src at *
  go_enter Try.func76, Try.ntmps76
  go_wp2_with (go_at_call 69; refine (byteAt_any _ _ _ hs).mono ?_; rintro e w' ⟨rfl, rfl⟩)
  clear hcn hsn
  go_loopw [7, 8] (fun nx i wr => ∃ (k : Nat) (sv : Value), k ≤ c.toNat ∧ i = .int .i64 k ∧ nx = .int .i64 (at_ + 2 + 2 * k) ∧ wr.cell? ⟨w.heap.size + 1, 0, none⟩ = some (.int .i64 src) ∧ wr.cell? ⟨w.heap.size + 1, 1, none⟩ = some sv ∧
      wr.frozen? ⟨w.heap.size + 1, 1, none⟩ = false ∧ wr.ownsRow (w.heap.size + 2) 96 2 sv k (pairCells (pairsAt (-1) s (at_ + 2) k)) ∧ Below (w.heap.size + 1) (w.alloc (.cells #[.int .i64 0, .slice none 0 0] 94)) wr ∧ w.heap.size + 2 ≤ wr.heap.size)
    (fun _ i _ => c.toNat - (intOf i).toNat)
  case atStart =>
    refine ⟨0, .slice none 0 0, Nat.zero_le _, rfl, by simp, by simp, by simp, by simp, World.ownsRow_nil _ _ _ _, ?_, by simp⟩
    exact (Below.refl _ _).alloc (by simp) _
  case round =>
    obtain ⟨k, sv, hk, rfl, rfl, hx0, hx1, hxf, hown, hbel, hz⟩ := hrel
    obtain ⟨ao, cp, rfl⟩ := owns_slice hown
    have hzl : w.heap.size + 1 < wr.heap.size := by omega
    have hzm : w.heap.size < wr.heap.size := by omega
    have r0 : wr.cell? ⟨w.heap.size, 0, none⟩ = some (.int .i64 0) := (hbel.cell (by simp)).trans (by simp)
    have r1 : wr.cell? ⟨w.heap.size, 1, none⟩ = some (.slice none 0 0) := (hbel.cell (by simp)).trans (by simp)
    have rf0 : wr.frozen? ⟨w.heap.size, 0, none⟩ = false := (hbel.frozen (by simp)).trans (by simp)
    have rf1 : wr.frozen? ⟨w.heap.size, 1, none⟩ = false := (hbel.frozen (by simp)).trans (by simp)
    by_cases hlt : (k : Int) < c
    · have HS : Hid (pairsAt (-1) s (at_ + 2) (k + 1) = pairsAt (-1) s (at_ + 2) k ++ [⟨byteOr (-1) s (at_ + 2 + 2 * k), byteOr (-1) s (at_ + 2 + 2 * k + 1)⟩]) := rfl
      go_wp2_with (first | (go_at_call 69; refine (byteAt_any _ _ _ hs).mono ?_; rintro e w' ⟨rfl, rfl⟩) | (at_builtin; refine wpList_append_own _ rfl _ _ 92 rfl (w.heap.size + 2) 96 i0 (.agg #[.int .i64 0, .int .i64 0]) 2 16 Try.underlying92 hi hz0 hz1 hz2 rfl (by decide) _ _ _ rfl ((hown.alloc _).alloc _) ⟨wr.heap.size + 1, 0, none⟩ 1 1 [.int .i64 (byteOr (-1) s (at_ + 2 + 2 * k)), .int .i64 (byteOr (-1) s (at_ + 2 + 2 * k + 1))] rfl rfl ?c1 ?c2 ?c3 ?c4 ?c5 ?_))
      case c1 => simpa using two_new (wr.alloc _) _ _ _
      case c2 => intro u hu; simp at hu; rcases hu with rfl | rfl <;> rfl
      case c3 => unfold maxLen; omega
      case c4 => omega
      case c5 => simp; omega
      intro v' w1 hown' hgrow _
      rw [← pairCells_snoc, ← HS.out] at hown'
      have hb2 := ((((Below.refl (w.heap.size + 2) wr).alloc hz _).alloc (by simp; omega) _).grown hgrow (by simp; omega) (fun g hg => (hown.lt g hg).1))
      have y0 := (hb2.cell (p := ⟨w.heap.size + 1, 0, none⟩) (by simp)).trans hx0
      have y1 := (hb2.cell (p := ⟨w.heap.size + 1, 1, none⟩) (by simp)).trans hx1
      have yf := (hb2.frozen (p := ⟨w.heap.size + 1, 1, none⟩) (by simp)).trans hxf
      have hz2 := hb2.size
      have hb3 := (hbel.trans (hb2.mono (by omega)))
      obtain ⟨ao', cp', rfl⟩ := owns_slice hown'
      clear hgrow hown hx0 hx1 hxf r0 r1 rf0 rf1 hb2 hbel
      go_wp2
      go_roundw
      case rel =>
        refine ⟨k + 1, _, by omega, by go_num, by go_num, ?_, ?_, ?_, ownsRow_setCell_below hown' (by simp) _, hb3.setCell (by simp) _, by simp; omega⟩
        · exact cell_unset (by simp) y0
        · exact cell_set y1
        · simp [yf]
      case measure => simp [intOf]; omega
    · obtain rfl : k = c.toNat := by omega
      go_wp2
      refine bodyPost_ret (v := .agg #[.int .i64 src, .slice ao c.toNat cp]) (by simp [results, Try.results76, go_sem, r0, r1]) rfl ⟨_, rfl, ?_, ?_⟩
      · exact owns_base (ownsRow_setCell_below (ownsRow_setCell_below hown (by simp) _) (by simp) _) (by omega)
      · exact ((Below.under hbel).setCell (by simp) _).setCell (by simp) _

end Go.Proofs.Ytblhmeidbjigaaa

/- Hints that lie in memory of their own, each list for itself. -/
set_option linter.unusedSimpArgs false
set_option linter.unusedVariables false
namespace Go.Proofs.Ytblhmeidbjigaaa
open Go.RowKit

section
variable {w w' : World} {base base' : Nat} {e : TypeId} {size : Nat} {v : Value} {n : Nat} {xs : List Value}

/-- What lies in a block that has not turned. -/
theorem owns_same (h : w.ownsRow base e size v n xs) (hb : ∀ g, v.ownBlock = some g → w'.heap[g]? = w.heap[g]?) : w'.ownsRow base e size v n xs := by
  refine ⟨h.1, ?_⟩
  rcases h.2 with h2 | ⟨g, cap, cur, rfl, hg, hh, r⟩
  · exact .inl h2
  · exact .inr ⟨g, cap, cur, rfl, hg, (hb g rfl).trans hh, r⟩

theorem owns_below {B : Nat} (h : w.ownsRow base e size v n xs) (hb : Below B w w') (hB : w.heap.size ≤ B) : w'.ownsRow base e size v n xs :=
  owns_same h fun g hg => hb.block g (Nat.lt_of_lt_of_le (h.lt g hg).2 hB)

/-- Rows of different types lie in different blocks. -/
theorem owns_apart {e' : TypeId} {size' : Nat} {v' : Value} {n' : Nat} {xs' : List Value} (h : w.ownsRow base e size v n xs) (h' : w.ownsRow base' e' size' v' n' xs') (he : e ≠ e') : ∀ g, v.ownBlock = some g → v'.ownBlock ≠ some g := by
  intro g hg hg'
  rcases h.2 with ⟨rfl, _⟩ | ⟨k, cap, cur, rfl, _, hh, _⟩
  · simp [Value.ownBlock] at hg
  rcases h'.2 with ⟨rfl, _⟩ | ⟨k', cap', cur', rfl, _, hh', _⟩
  · simp [Value.ownBlock] at hg'
  simp [Value.ownBlock] at hg hg'
  subst hg; subst hg'
  rw [hh] at hh'
  simp at hh'
  exact he hh'.2

theorem owns_cell (h : w.ownsRow base e size v n xs) {ao : Option Addr} {cap : Nat} (hv : v = .slice ao n cap) {i : Nat} (hi : i < xs.length) :
    ∃ b, ao = some ⟨b, 0, none⟩ ∧ base ≤ b ∧ v.ownBlock = some b ∧ w.cell? ⟨b, i, none⟩ = some xs[i] := by
  rcases h.2 with ⟨h1, h0⟩ | ⟨g, cap', cur, h1, hg, hh, r⟩
  · have := h.1
    simp [h0] at this
    simp [this] at hi
  · subst hv
    simp at h1
    obtain ⟨rfl, rfl⟩ := h1
    refine ⟨g, rfl, hg, rfl, ?_⟩
    have := h.cells (g := g) rfl i xs[i] (by simp)
    rwa [Addr.add_lit, Nat.zero_add] at this

theorem owns_le (h : w.ownsRow base e size v n xs) : n ≤ 9223372036854775807 := by
  rcases h.2 with ⟨h1, h0⟩ | ⟨g, cap', cur, h1, hg, hh, h2, h3, r⟩
  · omega
  · unfold maxLen at h3; omega
end

theorem pairCells_length (ps : List PairD) : (pairCells ps).length = ps.length * 2 := by
  induction ps with
  | nil => rfl
  | cons p r ih => simp only [pairCells, List.flatMap_cons, List.length_append, List.length_cons, List.length_nil] at *; omega

theorem pairCells_get (ps : List PairD) (i : Nat) (hi : i < ps.length) : (pairCells ps)[i * 2]? = some (.int .i64 (preg ps i)) ∧ (pairCells ps)[i * 2 + 1]? = some (.int .i64 (pplace ps i)) := by
  induction ps generalizing i with
  | nil => simp at hi
  | cons p r ih =>
    cases i with
    | zero => exact ⟨rfl, rfl⟩
    | succ i =>
      have h := ih i (by simpa using hi)
      have e1 : (i + 1) * 2 = i * 2 + 1 + 1 := by omega
      rw [e1]
      exact h

def pingCells (hv : List (PingD × Value)) : List Value := hv.flatMap fun x => [.int .i64 x.1.src, x.2]

theorem pingCells_snoc (hv : List (PingD × Value)) (x : PingD) (sv : Value) : pingCells (hv ++ [(x, sv)]) = pingCells hv ++ [.int .i64 x.src, sv] := by
  simp [pingCells]

theorem pingCells_length (hv : List (PingD × Value)) : (pingCells hv).length = hv.length * 2 := by
  induction hv with
  | nil => rfl
  | cons p r ih => simp only [pingCells, List.flatMap_cons, List.length_append, List.length_cons, List.length_nil] at *; omega

theorem pingCells_get (hv : List (PingD × Value)) (i : Nat) (hi : i < hv.length) : (pingCells hv)[i * 2]? = some (.int .i64 hv[i].1.src) ∧ (pingCells hv)[i * 2 + 1]? = some hv[i].2 := by
  induction hv generalizing i with
  | nil => simp at hi
  | cons p r ih =>
    cases i with
    | zero => exact ⟨rfl, rfl⟩
    | succ i =>
      have h := ih i (by simpa using hi)
      have e1 : (i + 1) * 2 = i * 2 + 1 + 1 := by omega
      rw [e1]
      exact h

/-- The hint hv lies at v, in memory from block base on, each list in a block of its own. -/
structure OwnHint (w : World) (base : Nat) (v : Value) (hv : List (PingD × Value)) : Prop where
  row : w.ownsRow base 94 2 v hv.length (pingCells hv)
  each : ∀ x ∈ hv, w.ownsRow base 96 2 x.2 x.1.pairs.length (pairCells x.1.pairs)
  apart : hv.Pairwise fun x y => ∀ g, x.2.ownBlock = some g → y.2.ownBlock ≠ some g

def hdat (hv : List (PingD × Value)) : List PingD := hv.map (·.1)

theorem ownHint_nil (w : World) (base : Nat) : OwnHint w base (.slice none 0 0) [] :=
  ⟨World.ownsRow_nil _ _ _ _, fun x hx => by simp at hx, List.Pairwise.nil⟩

theorem OwnHint.below {w w' : World} {base : Nat} {v : Value} {hv : List (PingD × Value)} (h : OwnHint w base v hv) {B : Nat} (hb : Below B w w') (hB : w.heap.size ≤ B) : OwnHint w' base v hv :=
  ⟨owns_below h.row hb hB, fun x hx => owns_below (h.each x hx) hb hB, h.apart⟩

theorem OwnHint.alloc {w : World} {base : Nat} {v : Value} {hv : List (PingD × Value)} (h : OwnHint w base v hv) (o : Obj) : OwnHint (w.alloc o) base v hv :=
  ⟨h.row.alloc o, fun x hx => (h.each x hx).alloc o, h.apart⟩

theorem OwnHint.set {w : World} {base : Nat} {v : Value} {hv : List (PingD × Value)} (h : OwnHint w base v hv) {a : Addr} (ha : a.block < base) (u : Value) : OwnHint (w.setCell a u) base v hv :=
  ⟨ownsRow_setCell_below h.row ha u, fun x hx => ownsRow_setCell_below (h.each x hx) ha u, h.apart⟩

theorem OwnHint.base {w : World} {base base' : Nat} {v : Value} {hv : List (PingD × Value)} (h : OwnHint w base v hv) (hb : base' ≤ base) : OwnHint w base' v hv :=
  ⟨owns_base h.row hb, fun x hx => owns_base (h.each x hx) hb, h.apart⟩

/-- One block more, behind an append. -/
theorem OwnHint.snoc {w w' : World} {base : Nat} {v v' : Value} {hv : List (PingD × Value)} (h : OwnHint w base v hv) {x : PingD} {sv : Value}
    (hx : w.ownsRow base 96 2 sv x.pairs.length (pairCells x.pairs)) (hfree : ∀ y ∈ hv, ∀ g, y.2.ownBlock = some g → sv.ownBlock ≠ some g)
    (hg : w.grownBy w' v.ownBlock) (hown : w'.ownsRow base 94 2 v' (hv.length + 1) (pingCells hv ++ [.int .i64 x.src, sv])) : OwnHint w' base v' (hv ++ [(x, sv)]) := by
  have keep : ∀ (u : Value) (ps : List PairD), w.ownsRow base 96 2 u ps.length (pairCells ps) → w'.ownsRow base 96 2 u ps.length (pairCells ps) := by
    intro u ps hu
    refine hu.kept hg ?_
    cases hb : u.ownBlock with
    | none => exact .inl rfl
    | some g => exact .inr (fun e => owns_apart hu h.row (by decide) g hb e.symm)
  refine ⟨by rw [pingCells_snoc]; simpa using hown, ?_, ?_⟩
  · intro y hy
    rcases List.mem_append.1 hy with hy | hy
    · exact keep _ _ (h.each y hy)
    · simp at hy; subst hy; exact keep _ _ hx
  · rw [List.pairwise_append]
    refine ⟨h.apart, by simp, ?_⟩
    intro a ha b hb
    simp at hb
    subst hb
    exact hfree a ha

theorem owns_rdPairs {w : World} {base : Nat} {v : Value} {ps : List PairD} (h : w.ownsRow base 96 2 v ps.length (pairCells ps)) : RdPairs w v ps := by
  obtain ⟨ao, cap, hv⟩ := owns_slice h
  refine ⟨ao, cap, hv, owns_le h, fun i hi => ?_⟩
  have hl := pairCells_length ps
  obtain ⟨b, hao, _, hb, hc⟩ := owns_cell h hv (i := i * 2) (by omega)
  obtain ⟨b', hao', _, hb', hc'⟩ := owns_cell h hv (i := i * 2 + 1) (by omega)
  have : b = b' := by rw [hb] at hb'; simpa using hb'
  subst this
  obtain ⟨g1, g2⟩ := pairCells_get ps i hi
  refine ⟨b, 0, hao, ?_, ?_⟩
  · rw [Nat.zero_add, hc]; rw [List.getElem?_eq_getElem (by omega)] at g1; exact g1
  · rw [Nat.zero_add, hc']; rw [List.getElem?_eq_getElem (by omega)] at g2; exact g2

theorem hdat_get (hv : List (PingD × Value)) {i : Nat} (hi : i < hv.length) : hsrc (hdat hv) i = hv[i].1.src ∧ hpairs (hdat hv) i = hv[i].1.pairs := by
  constructor <;> simp [hsrc, hpairs, hdat, hi]

theorem hdat_length (hv : List (PingD × Value)) : (hdat hv).length = hv.length := by simp [hdat]

theorem OwnHint.rd {w : World} {base : Nat} {v : Value} {hv : List (PingD × Value)} (h : OwnHint w base v hv) : RdHint w v (hdat hv) := by
  obtain ⟨ao, cap, hv'⟩ := owns_slice h.row
  refine ⟨ao, cap, by rw [hdat_length]; exact hv', by rw [hdat_length]; exact owns_le h.row, fun i hi => ?_⟩
  rw [hdat_length] at hi
  have hl := pingCells_length hv
  obtain ⟨b, hao, _, hb, hc⟩ := owns_cell h.row hv' (i := i * 2) (by omega)
  obtain ⟨b', hao', _, hb', hc'⟩ := owns_cell h.row hv' (i := i * 2 + 1) (by omega)
  have : b = b' := by rw [hb] at hb'; simpa using hb'
  subst this
  obtain ⟨g1, g2⟩ := pingCells_get hv i hi
  obtain ⟨e1, e2⟩ := hdat_get hv hi
  refine ⟨b, 0, hv[i].2, hao, ?_, ?_, ?_⟩
  · rw [Nat.zero_add, hc, e1]; rw [List.getElem?_eq_getElem (by omega)] at g1; exact g1
  · rw [Nat.zero_add, hc']; rw [List.getElem?_eq_getElem (by omega)] at g2; exact g2
  · rw [e2]; exact owns_rdPairs (h.each _ (by simp))

end Go.Proofs.Ytblhmeidbjigaaa

/- DecodeHint in the codec. -/
set_option linter.unusedSimpArgs false
set_option linter.unusedVariables false
namespace Go.Proofs.Ytblhmeidbjigaaa
open Go.RowKit

set_option maxHeartbeats 400000 in
theorem pairingSize_any (src : Int) (ao : Option Addr) (n cap : Nat) (w : World) (hn : n ≤ 1000) :
    Calls Try.prog 77 #[.agg #[.int .i64 src, .slice ao n cap]] w fun e w' => e = .returned (.int .i64 (2 + 2 * n)) ∧ Below w.heap.size w w' := by
  go_enter Try.func77, Try.ntmps77
  go_wp2
  go_ret
  exact ⟨by simp, (Below.refl _ _).alloc (Nat.le_refl _) _⟩

/-- The block that is read at a place. -/
def pingAt (d : Int) (s : ByteArray) (p : Int) : PingD := ⟨byteOr d s p, pairsAt d s (p + 2) (byteOr d s (p + 1)).toNat⟩

/-- Where the k-th block begins. -/
def atOf (s : ByteArray) : Nat → Int
  | 0 => 3
  | k + 1 => atOf s k + (2 + 2 * (byteOr (-1) s (atOf s k + 1)).toNat)

/-- The first k blocks that are read. -/
def pingsOf (s : ByteArray) : Nat → List PingD
  | 0 => []
  | k + 1 => pingsOf s k ++ [pingAt (-1) s (atOf s k)]

theorem atOf_bd (s : ByteArray) (k : Nat) : 3 ≤ atOf s k ∧ atOf s k ≤ 3 + 512 * k := by
  induction k with
  | zero => simp [atOf]
  | succ k ih =>
    have := byteOr_bd (-1) s (atOf s k + 1) (by omega)
    simp only [atOf]
    omega

def readsHint (s : ByteArray) : Bool :=
  decide (byteOr (-1) s 0 = 84) && decide (byteOr (-1) s 1 = 72) && decide (atOf s (byteOr (-1) s 2).toNat = s.size) && goodHint (pingsOf s (byteOr (-1) s 2).toNat)

set_option maxRecDepth 100000 in
set_option maxHeartbeats 2000000 in
theorem cDecodeHint_cps (s : ByteArray) (w : World) (hs : s.size ≤ maxLen) (Post : Ending → World → Prop)
    (hyes : ∀ v hv w', readsHint s = true → OwnHint w' w.heap.size v hv → hdat hv = pingsOf s (byteOr (-1) s 2).toNat → Below w.heap.size w w' → Post (.returned (.tuple #[.agg #[v], .int .i64 0])) w')
    (hno : ∀ w', readsHint s = false → Below w.heap.size w w' → Post (.returned (.tuple #[.agg #[.slice none 0 0], .int .i64 2])) w') :
    Calls Try.prog 50 #[.string s] w Post := by
  obtain ⟨i0, ii, iz0, iz1, iz2⟩ := info_parts Try.infoPing
  have hcb := byteOr_bd (-1) s 2 (by omega)
  have hsz := hs
  unfold maxLen at hsz
  by_cases h0 : byteOr (-1) s 0 = 84
  case neg =>
    have hRf : readsHint s = false := by simp [readsHint, h0]
    have hno' := fun w' => hno w' hRf
    clear hno hyes hRf
    have hb : (byteOr (-1) s 0 != 84) = true := by simp [h0]
    go_enter Try.func50, Try.ntmps50
    go_wp2_with (go_at_call 69; refine (byteAt_any _ _ _ hs).mono ?_; rintro e w' ⟨rfl, rfl⟩)
    exact bodyPost_ret (v := .tuple #[.agg #[.slice none 0 0], .int .i64 2]) (by simp [results, Try.results50, go_sem]) rfl (hno' _ ((Below.refl _ _).alloc (Nat.le_refl _) _))
  by_cases h1 : byteOr (-1) s 1 = 72
  case neg =>
    have hRf : readsHint s = false := by simp [readsHint, h1]
    have hno' := fun w' => hno w' hRf
    clear hno hyes hRf
    have hb : (byteOr (-1) s 1 != 72) = true := by simp [h1]
    go_enter Try.func50, Try.ntmps50
    go_wp2_with (go_at_call 69; refine (byteAt_any _ _ _ hs).mono ?_; rintro e w' ⟨rfl, rfl⟩)
    exact bodyPost_ret (v := .tuple #[.agg #[.slice none 0 0], .int .i64 2]) (by simp [results, Try.results50, go_sem]) rfl (hno' _ ((Below.refl _ _).alloc (Nat.le_refl _) _))
  have HR : Hid (readsHint s = (decide (atOf s (byteOr (-1) s 2).toNat = s.size) && goodHint (pingsOf s (byteOr (-1) s 2).toNat))) := by show _ = _; simp [readsHint, h0, h1]
  generalize hcn : byteOr (-1) s 2 = c at *
  have HY := Hid.out (p := ∀ v hv w', readsHint s = true → OwnHint w' w.heap.size v hv → hdat hv = pingsOf s c.toNat → Below w.heap.size w w' → Post (.returned (.tuple #[.agg #[v], .int .i64 0])) w') hyes
  go_enter Try.func50, Try.ntmps50
  go_wp2_with (go_at_call 69; refine (byteAt_any _ _ _ hs).mono ?_; rintro e w' ⟨rfl, rfl⟩)
  clear hcn h0 h1
  go_loopw [6, 7] (fun p i wr => ∃ (k : Nat) (v : Value) (hv : List (PingD × Value)), k ≤ c.toNat ∧ i = .int .i64 k ∧ p = .int .i64 (atOf s k) ∧ wr.cell? ⟨w.heap.size + 1, 0, none⟩ = some v ∧
      wr.frozen? ⟨w.heap.size + 1, 0, none⟩ = false ∧ OwnHint wr (w.heap.size + 2) v hv ∧ Hid (hdat hv = pingsOf s k) ∧ Hid (hv.length = k) ∧ Below (w.heap.size + 1) (w.alloc (.cells #[.slice none 0 0] 31)) wr ∧ w.heap.size + 2 ≤ wr.heap.size)
    (fun _ i _ => c.toNat - (intOf i).toNat)
  case atStart =>
    refine ⟨0, .slice none 0 0, [], Nat.zero_le _, rfl, rfl, by simp, by simp, ownHint_nil _ _, rfl, rfl, ?_, by simp⟩
    exact (Below.refl _ _).alloc (by simp) _
  case round =>
    obtain ⟨k, v, hv, hk, rfl, rfl, hx0, hxf, hown, hdt, hvl, hbel, hz⟩ := hrel
    obtain ⟨ao, cp, rfl⟩ := owns_slice hown.row
    have hzl : w.heap.size + 1 < wr.heap.size := by omega
    have hzm : w.heap.size < wr.heap.size := by omega
    have r0 : wr.cell? ⟨w.heap.size, 0, none⟩ = some (.slice none 0 0) := (hbel.cell (by simp)).trans (by simp)
    have rf0 : wr.frozen? ⟨w.heap.size, 0, none⟩ = false := (hbel.frozen (by simp)).trans (by simp)
    have hab := atOf_bd s k
    by_cases hlt : (k : Int) < c
    · go_wp2_with fail
      refine (pairingAt_any s _ _ hs (by omega) (by omega)).mono ?_
      rintro e w1 ⟨sv, rfl, hsv, hb1⟩
      have HX : Hid (pingsOf s (k + 1) = pingsOf s k ++ [⟨byteOr (-1) s (atOf s k), pairsAt (-1) s (atOf s k + 2) (byteOr (-1) s (atOf s k + 1)).toNat⟩]) := rfl
      have HA : Hid (atOf s (k + 1) = atOf s k + (2 + 2 * (byteOr (-1) s (atOf s k + 1)).toNat)) := rfl
      have hmb := byteOr_bd (-1) s (atOf s k + 1) (by omega)
      have hpl := pairsAt_length (-1) s (atOf s k + 2) (byteOr (-1) s (atOf s k + 1)).toNat
      have hm : (byteOr (-1) s (atOf s k + 1)).toNat ≤ 255 := by omega
      clear hmb
      generalize (byteOr (-1) s (atOf s k + 1)).toNat = m at *
      generalize byteOr (-1) s (atOf s k) = src at *
      generalize pairsAt (-1) s (atOf s k + 2) m = ps at *
      subst hpl
      obtain ⟨so, sc, rfl⟩ := owns_slice hsv
      have own1 := hown.below hb1 (Nat.le_refl _)
      have x0 := (hb1.cell (p := ⟨w.heap.size + 1, 0, none⟩) hzl).trans hx0
      have xf := (hb1.frozen (p := ⟨w.heap.size + 1, 0, none⟩) hzl).trans hxf
      have hz1 := hb1.size
      have hzl1 : w.heap.size + 1 < w1.heap.size := by omega
      go_wp2_with (at_builtin; refine wpList_append_own _ rfl _ _ 29 rfl (w.heap.size + 2) 94 i0 (.agg #[.int .i64 0, .slice none 0 0]) 2 32 Try.underlying29 ii iz0 iz1 iz2 rfl (by decide) _ _ _ rfl ((own1.row.alloc _).alloc _) ⟨w1.heap.size + 1, 0, none⟩ 1 1 [.int .i64 src, .slice so ps.length sc] rfl rfl ?c1 ?c2 ?c3 ?c4 ?c5 ?_)
      case c1 => simpa using two_new (w1.alloc _) _ _ _
      case c2 => intro u hu; simp at hu; rcases hu with rfl | rfl <;> rfl
      case c3 => have := hvl.out; unfold maxLen; omega
      case c4 => have := hvl.out; omega
      case c5 => simp; omega
      intro v' w2 hown' hgrow _
      have hne : ∀ g, w1.heap.size ≤ g → some g ≠ (Value.slice ao hv.length cp).ownBlock := fun g hg e => by have := (own1.row.lt _ e.symm).2; omega
      have own2 : OwnHint w2 (w.heap.size + 2) v' (hv ++ [(⟨src, ps⟩, .slice so ps.length sc)]) := by
        refine ((own1.alloc _).alloc _).snoc (x := ⟨src, ps⟩) ((owns_base hsv (by omega)).alloc _ |>.alloc _) ?_ hgrow hown'
        intro y hy g hg e
        have e1 := ((hown.each y hy).lt g hg).2
        have e2 := (hsv.lt g e).1
        omega
      have hb2 := ((((Below.refl (w.heap.size + 2) w1).alloc (by omega) _).alloc (by simp; omega) _).grown hgrow (by simp; omega) (fun g hg => (own1.row.lt g hg).1))
      have y0 := (hb2.cell (p := ⟨w.heap.size + 1, 0, none⟩) (by simp)).trans x0
      have yf := (hb2.frozen (p := ⟨w.heap.size + 1, 0, none⟩) (by simp)).trans xf
      have z0 : w2.cell? ⟨w1.heap.size, 0, none⟩ = some (.int .i64 src) := hgrow.cell (by simp) (hne _ (Nat.le_refl _))
      have z1 : w2.cell? ⟨w1.heap.size, 1, none⟩ = some (.slice so ps.length sc) := hgrow.cell (by simp) (hne _ (Nat.le_refl _))
      have hz2 := hb2.size
      have hzl2 : w.heap.size + 1 < w2.heap.size := by omega
      have hzn : w1.heap.size ≠ w.heap.size + 1 := by omega
      have hb3 := (hbel.trans (hb1.mono (by omega))).trans (hb2.mono (by omega))
      obtain ⟨ao', cp', hv'⟩ := owns_slice own2.row
      rw [List.length_append] at hv'
      simp only [List.length_cons, List.length_nil, Nat.zero_add] at hv'
      subst hv'
      have z0' : ∀ u, (w2.setCell ⟨w.heap.size + 1, 0, none⟩ u).cell? ⟨w1.heap.size, 0, none⟩ = some (.int .i64 src) := fun u => cell_unset (by simp) z0
      have z1' : ∀ u, (w2.setCell ⟨w.heap.size + 1, 0, none⟩ u).cell? ⟨w1.heap.size, 1, none⟩ = some (.slice so ps.length sc) := fun u => cell_unset (by simp) z1
      clear hgrow hown hown' own1 hsv hx0 hxf x0 xf r0 rf0 hb2 hbel hne
      go_wp2_with fail
      refine (pairingSize_any _ _ _ _ _ (by omega)).mono ?_
      rintro e w3 ⟨rfl, hb4⟩
      have own3 := (own2.set (a := ⟨w.heap.size + 1, 0, none⟩) (by simp) _).below hb4 (Nat.le_refl _)
      have hs3 := hb4.size
      have v0 := (hb4.cell (p := ⟨w.heap.size + 1, 0, none⟩) (by simp; omega)).trans (cell_set y0)
      have vf := (hb4.frozen (p := ⟨w.heap.size + 1, 0, none⟩) (by simp; omega)).trans (by simpa using yf)
      have hb5 := (hb3.setCell (p := ⟨w.heap.size + 1, 0, none⟩) (by simp) _).trans (hb4.mono (by simp; omega))
      simp at hs3
      clear hb4 own2 hb3 y0 yf z0 z1 z0' z1'
      go_wp2
      go_roundw
      case rel =>
        refine ⟨k + 1, _, _, by omega, by go_num, by rw [HA.out], v0, vf, own3, ?_, ?_, hb5, by omega⟩
        · show hdat _ = _
          rw [HX.out, ← hdt.out]; simp [hdat]
        · show List.length _ = _
          have := hvl.out
          simp; exact this
      case measure => simp [intOf]; omega
    · obtain rfl : k = c.toNat := by omega
      by_cases he : atOf s c.toNat = s.size
      case neg =>
        have hRf : readsHint s = false := by rw [HR.out]; simp [he]
        have hno' := fun w' => hno w' hRf
        clear hno hyes HY hRf HR
        have hb : (atOf s c.toNat != (s.size : Int)) = true := by simp [he]
        go_wp2
        refine bodyPost_ret (v := .tuple #[.agg #[.slice none 0 0], .int .i64 2]) (by simp [results, Try.results50, go_sem, r0]) rfl (hno' _ ?_)
        exact (Below.under hbel).setCell (by simp) _
      have hb : (atOf s c.toNat != (s.size : Int)) = false := by simp [he]
      cases hg : goodHint (pingsOf s c.toNat)
      · have hRf : readsHint s = false := by rw [HR.out]; simp [hg]
        have hno' := fun w' => hno w' hRf
        clear hno hyes HY hRf HR
        have hrd := hown.rd
        rw [hdt.out] at hrd
        go_wp2_with fail
        refine (wmHint_any _ _ _ hrd).mono ?_
        rintro e w1 ⟨rfl, hb1⟩
        have x0 := (hb1.cell (p := ⟨w.heap.size, 0, none⟩) hzm).trans r0
        have xf := (hb1.frozen (p := ⟨w.heap.size, 0, none⟩) hzm).trans rf0
        have hb2 := (Below.under hbel).trans (hb1.mono (by omega))
        clear r0 rf0 hx0 hxf hrd
        go_wp2
        refine bodyPost_ret (v := .tuple #[.agg #[.slice none 0 0], .int .i64 2]) (by simp [results, Try.results50, go_sem, x0]) rfl (hno' _ ?_)
        exact hb2.setCell (by simp) _
      · have hRf : readsHint s = true := by rw [HR.out]; simp [hg, he]
        have hrd := hown.rd
        rw [hdt.out] at hrd
        go_wp2_with fail
        refine (wmHint_any _ _ _ hrd).mono ?_
        rintro e w1 ⟨rfl, hb1⟩
        have x0 := (hb1.cell (p := ⟨w.heap.size, 0, none⟩) hzm).trans r0
        have xf := (hb1.frozen (p := ⟨w.heap.size, 0, none⟩) hzm).trans rf0
        have y0 := (hb1.cell (p := ⟨w.heap.size + 1, 0, none⟩) hzl).trans hx0
        have hb2 := (Below.under hbel).trans (hb1.mono (by omega))
        have own1 := (hown.below hb1 (Nat.le_refl _)).set (a := ⟨w.heap.size, 0, none⟩) (by simp) (.slice ao hv.length cp) |>.base (base' := w.heap.size) (by omega)
        have hfin := HY _ _ _ hRf own1 hdt.out (hb2.setCell (by simp) _)
        clear r0 rf0 hx0 hxf hrd hno hyes HY HR hown own1
        go_wp2
        exact bodyPost_ret (v := .tuple #[.agg #[.slice ao hv.length cp], .int .i64 0]) (by simp [results, Try.results50, go_sem, x0]) rfl hfin

end Go.Proofs.Ytblhmeidbjigaaa
