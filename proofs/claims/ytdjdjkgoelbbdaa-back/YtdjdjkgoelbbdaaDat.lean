/- Hints and programs as plain data; how they lie in memory. -/
import Derived.Test.YtdjdjkgoelbbdaaRefA
import Derived.Deep.QuietTactic
import Derived.BigQuiet
set_option linter.unusedSimpArgs false
set_option linter.unusedVariables false
namespace Go.Proofs.Ytdjdjkgoelbbdaa
open Go.RowKit

/-! ### Plain data -/

structure PairD where
  reg : Int
  place : Int

structure PingD where
  src : Int
  pairs : List PairD

def pz : PairD := ⟨0, 0⟩
def hz : PingD := ⟨0, []⟩

def preg (ps : List PairD) (k : Nat) : Int := (ps.getD k pz).reg
def pplace (ps : List PairD) (k : Nat) : Int := (ps.getD k pz).place
def hsrc (h : List PingD) (k : Nat) : Int := (h.getD k hz).src
def hpairs (h : List PingD) (k : Nat) : List PairD := (h.getD k hz).pairs

/-! ### Well made hints -/

def goodPairs : Int → List PairD → Bool
  | _, [] => true
  | last, p :: r => below p.reg 8 && below p.place 16 && decide (last < p.place) && goodPairs p.place r

def goodPing (x : PingD) : Bool := below x.src 6 && decide (x.pairs.length ≤ 16) && goodPairs (-1) x.pairs

def goodPings (h : List PingD) : Bool := h.all goodPing

def goodHint (h : List PingD) : Bool := decide (1 ≤ h.length ∧ h.length ≤ 6) && goodPings h

def gFrom (ps : List PairD) (last : Int) (k : Nat) : Bool := goodPairs last (ps.drop k)

theorem drop_getD {α : Type} (l : List α) (d : α) (k : Nat) (h : k < l.length) : l.drop k = l.getD k d :: l.drop (k + 1) := by
  rw [List.drop_eq_getElem_cons h]; simp [h]

theorem gFrom_end {ps : List PairD} {last : Int} {k : Nat} (h : ps.length ≤ k) : gFrom ps last k = true := by
  unfold gFrom; rw [List.drop_of_length_le h]; rfl

theorem gFrom_step {ps : List PairD} {last : Int} {k : Nat} (h : k < ps.length) :
    gFrom ps last k = (below (preg ps k) 8 && below (pplace ps k) 16 && decide (last < pplace ps k) && gFrom ps (pplace ps k) (k + 1)) := by
  unfold gFrom; rw [drop_getD ps pz k h]; rfl

def gpFrom (h : List PingD) (k : Nat) : Bool := goodPings (h.drop k)

theorem gpFrom_end {h : List PingD} {k : Nat} (hk : h.length ≤ k) : gpFrom h k = true := by
  unfold gpFrom; rw [List.drop_of_length_le hk]; rfl

theorem gpFrom_step {h : List PingD} {k : Nat} (hk : k < h.length) : gpFrom h k = (goodPing ⟨hsrc h k, hpairs h k⟩ && gpFrom h (k + 1)) := by
  unfold gpFrom; rw [drop_getD h hz k hk]; rfl

/-! ### How they lie in memory -/

/-- The slice value v reads as the pairs ps. -/
def RdPairs (w : World) (v : Value) (ps : List PairD) : Prop :=
  ∃ ao cap, v = .slice ao ps.length cap ∧ ps.length ≤ 9223372036854775807 ∧ ∀ i, i < ps.length → ∃ b off, ao = some ⟨b, off, none⟩ ∧
    w.cell? ⟨b, off + i * 2, none⟩ = some (.int .i64 (preg ps i)) ∧ w.cell? ⟨b, off + i * 2 + 1, none⟩ = some (.int .i64 (pplace ps i))

/-- The slice value v reads as the hint's blocks h. -/
def RdHint (w : World) (v : Value) (h : List PingD) : Prop :=
  ∃ ao cap, v = .slice ao h.length cap ∧ h.length ≤ 9223372036854775807 ∧ ∀ i, i < h.length → ∃ b off sv, ao = some ⟨b, off, none⟩ ∧
    w.cell? ⟨b, off + i * 2, none⟩ = some (.int .i64 (hsrc h i)) ∧ w.cell? ⟨b, off + i * 2 + 1, none⟩ = some sv ∧ RdPairs w sv (hpairs h i)

theorem cell_keep {w w' : World} (hb : Below w.heap.size w w') {a : Addr} {v : Value} (h : w.cell? a = some v) : w'.cell? a = some v :=
  (hb.cell (World.block_lt_of_cell? w a h)).trans h

theorem RdPairs.keep {w w' : World} {v : Value} {ps : List PairD} (h : RdPairs w v ps) (hb : Below w.heap.size w w') : RdPairs w' v ps := by
  obtain ⟨ao, cap, rfl, hl, hc⟩ := h
  exact ⟨ao, cap, rfl, hl, fun i hi => let ⟨b, off, e, h1, h2⟩ := hc i hi; ⟨b, off, e, cell_keep hb h1, cell_keep hb h2⟩⟩

theorem RdHint.keep {w w' : World} {v : Value} {h : List PingD} (hr : RdHint w v h) (hb : Below w.heap.size w w') : RdHint w' v h := by
  obtain ⟨ao, cap, rfl, hl, hc⟩ := hr
  exact ⟨ao, cap, rfl, hl, fun i hi => let ⟨b, off, sv, e, h1, h2, h3⟩ := hc i hi; ⟨b, off, sv, e, cell_keep hb h1, cell_keep hb h2, h3.keep hb⟩⟩

/-- A frame that opened with one new block. -/
theorem Below.under {w w' : World} {o : Obj} (h : Below (w.heap.size + 1) (w.alloc o) w') : Below w.heap.size w w' :=
  ((Below.refl w.heap.size w).alloc (Nat.le_refl _) o).trans (h.mono (by omega))

/-! ### A region whose order is open, its calls making memory: any world that keeps what lay below B -/

structure Past (B : Nat) (w : World) where
  wd : World
  ok : Below B w wd

theorem wp_region_past {P : Program} {id : Nat} {Q : Exit → Act → World → Prop} {a : Act} {w : World} {l : List Oper} (B : Nat) (hm : P.follows .mixedOrders = true) (hB : Region.lexB .any l.toArray = true)
    (h : wpQuiet P l.toArray (fun w' => ∃ x : Past B w, w' = x.wd) (fun a' => ∀ w', (∃ x : Past B w, w' = x.wd) → Q .normal a' w') l a) : (Code.region id l.toArray true).wp P Q a w :=
  wp_region_quiet (C := fun w' => ∃ x : Past B w, w' = x.wd) hm hB ⟨⟨w.drew, (Below.refl B w).drew⟩, rfl⟩ (by simpa using h)

theorem Calls.past_of {P : Program} {f : FuncId} {args : Array Value} {w : World} {B : Nat} {x : Past B w} {v : Value} (hB : B ≤ w.heap.size)
    (h : Calls P f args x.wd fun e w' => e = .returned v ∧ Below x.wd.heap.size x.wd w') : Calls P f args x.wd fun e w'' => e = .returned v ∧ ∃ y : Past B w, w'' = y.wd :=
  h.mono fun _ w' ⟨he, hb⟩ => ⟨he, ⟨w', x.ok.trans (hb.mono (Nat.le_trans hB x.ok.size))⟩, rfl⟩

theorem Past.any (B : Nat) (w : World) : Nonempty (Past B w) := ⟨⟨w, Below.refl B w⟩⟩

theorem Past.cell {w : World} (x : Past w.heap.size w) {a : Addr} {v : Value} (h : w.cell? a = some v) : x.wd.cell? a = some v := cell_keep x.ok h

theorem owns_slice {w : World} {base : Nat} {e : TypeId} {size : Nat} {v : Value} {n : Nat} {xs : List Value} (h : w.ownsRow base e size v n xs) : ∃ ao cap, v = .slice ao n cap := by
  rcases h.2 with ⟨rfl, rfl⟩ | ⟨g, cap, cur, rfl, _⟩
  · exact ⟨_, _, rfl⟩
  · exact ⟨_, _, rfl⟩

theorem owns_base {w : World} {base base' : Nat} {e : TypeId} {size : Nat} {v : Value} {n : Nat} {xs : List Value} (h : w.ownsRow base e size v n xs) (hb : base' ≤ base) : w.ownsRow base' e size v n xs := by
  refine ⟨h.1, ?_⟩
  rcases h.2 with h2 | ⟨g, cap, cur, hv, hg, r⟩
  · exact .inl h2
  · exact .inr ⟨g, cap, cur, hv, Nat.le_trans hb hg, r⟩

theorem cell_set {w : World} {a : Addr} {u v : Value} (h : w.cell? a = some u) : (w.setCell a v).cell? a = some v := World.cell?_setCell_same _ _ _ h

theorem cell_unset {w : World} {a b : Addr} {u v : Value} (hn : a ≠ b) (h : w.cell? b = some u) : (w.setCell a v).cell? b = some u := (World.cell?_setCell_other _ _ _ _ hn).trans h

/-! ### Texts -/

def pairsText (ps : List PairD) : List UInt8 := ps.flatMap fun p => [byt p.reg, byt p.place]

def pingText (x : PingD) : List UInt8 := [byt x.src, byt x.pairs.length] ++ pairsText x.pairs

def hintText (h : List PingD) : List UInt8 := [84, 72, byt h.length] ++ h.flatMap pingText

/-- A text out of bytes. -/
def str (l : List UInt8) : ByteArray := ⟨l.toArray⟩

theorem str_append (a b : List UInt8) : str a ++ str b = str (a ++ b) := by
  apply ByteArray.ext
  simp [str]

/-- The text of a pairing, as far as its first k pairs. -/
def pingTo (src : Int) (ps : List PairD) (k : Nat) : ByteArray := str ([byt src, byt ps.length] ++ pairsText (ps.take k))

theorem take_getD {α : Type} (l : List α) (d : α) (k : Nat) (h : k < l.length) : l.take (k + 1) = l.take k ++ [l.getD k d] := by
  rw [List.take_succ_eq_append_getElem h]; simp [h]

theorem pingTo_step {src : Int} {ps : List PairD} {k : Nat} (h : k < ps.length) : pingTo src ps (k + 1) = pingTo src ps k ++ ⟨#[byt (preg ps k), byt (pplace ps k)]⟩ := by
  show _ = str _ ++ str [_, _]
  rw [str_append]
  simp [pingTo, pairsText, take_getD ps pz k h, preg, pplace]

theorem pingTo_end {src : Int} {ps : List PairD} {k : Nat} (h : ps.length ≤ k) : pingTo src ps k = str (pingText ⟨src, ps⟩) := by
  simp [pingTo, pingText, List.take_of_length_le h]

/-- The text of a hint, as far as its first k blocks. -/
def hintTo (h : List PingD) (k : Nat) : ByteArray := str ([84, 72, byt h.length] ++ (h.take k).flatMap pingText)

theorem hintTo_step {h : List PingD} {k : Nat} (hk : k < h.length) : hintTo h (k + 1) = hintTo h k ++ str (pingText ⟨hsrc h k, hpairs h k⟩) := by
  unfold hintTo
  rw [str_append, take_getD h hz k hk, List.flatMap_append, List.append_assoc]
  simp [hsrc, hpairs]

theorem hintTo_end {h : List PingD} {k : Nat} (hk : h.length ≤ k) : hintTo h k = str (hintText h) := by
  simp [hintTo, hintText, List.take_of_length_le hk]

theorem pairsText_length (ps : List PairD) : (pairsText ps).length = 2 * ps.length := by
  induction ps with
  | nil => rfl
  | cons p r ih => simp only [pairsText, List.flatMap_cons, List.length_append, List.length_cons, List.length_nil] at *; omega

theorem pingTo_size (src : Int) (ps : List PairD) (k : Nat) (h : k ≤ ps.length) : (pingTo src ps k).size = 2 + 2 * k := by
  simp [pingTo, str, ByteArray.size, pairsText_length, List.length_take, Nat.min_eq_left h]
  omega

theorem goodHint_len {h : List PingD} (hg : goodHint h = true) : 1 ≤ h.length ∧ h.length ≤ 6 := by
  simp [goodHint] at hg; omega

theorem goodHint_ping {h : List PingD} (hg : goodHint h = true) (x : PingD) (hx : x ∈ h) : goodPing x = true := by
  simp [goodHint, goodPings] at hg; exact hg.2 x hx

theorem getD_mem' {α : Type} {l : List α} {d : α} {k : Nat} (h : k < l.length) : l.getD k d ∈ l := by
  simp [h]

theorem goodHint_pairs {h : List PingD} (hg : goodHint h = true) {k : Nat} (hk : k < h.length) : (hpairs h k).length ≤ 16 := by
  have := goodHint_ping hg (h.getD k hz) (getD_mem' hk)
  simp [goodPing] at this
  exact this.1.2

theorem pingText_length (x : PingD) : (pingText x).length = 2 + 2 * x.pairs.length := by
  simp [pingText, pairsText_length]; omega

theorem flat_le {l : List PingD} (h : ∀ x ∈ l, x.pairs.length ≤ 16) : (l.flatMap pingText).length ≤ 34 * l.length := by
  induction l with
  | nil => simp
  | cons x r ih =>
    have h1 := h x (by simp)
    have h2 := ih (fun y hy => h y (by simp [hy]))
    simp only [List.flatMap_cons, List.length_append, pingText_length, List.length_cons]
    omega

theorem hintTo_size {h : List PingD} (hg : goodHint h = true) (k : Nat) : (hintTo h k).size ≤ 210 := by
  have h1 := goodHint_len hg
  have h2 := flat_le (l := h.take k) (fun x hx => by
    have := goodHint_ping hg x (List.mem_of_mem_take hx)
    simp [goodPing] at this
    exact this.1.2)
  have h3 : (h.take k).length ≤ 6 := Nat.le_trans (List.length_take_le' _ _) h1.2
  have e : (hintTo h k).size = 3 + ((h.take k).flatMap pingText).length := by
    simp [hintTo, str, ByteArray.size]; omega
  omega

end Go.Proofs.Ytdjdjkgoelbbdaa
