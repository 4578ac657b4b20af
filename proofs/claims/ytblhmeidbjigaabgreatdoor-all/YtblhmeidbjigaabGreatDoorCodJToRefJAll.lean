/- Reading a hint in the codec. -/
import Derived.Test.YtblhmeidbjigaabGreatDoorRows
import Derived.WalkKit
import Derived.WalkSpells
import Derived.WalkLawsBesides
import Derived.Laws.BytesArg
import Derived.Deep.QuietTactic
import Derived.BigQuiet
import Derived.Deep.RegionHeld3
import Derived.Test.YtblhmeidbjigaabGreatDoorCodAToCodIAll

set_option linter.unusedSimpArgs false
set_option linter.unusedVariables false
namespace Go.Proofs.YtblhmeidbjigaabGreatDoor
open Go.RowKit

theorem Tryz.infoPair : (Tryz.prog.info? 38).map (fun i => (i.zero, i.size, i.bytes)) = some (some (.agg #[.int .i64 0, .int .i64 0]), 2, 16) := by kernel_rfl
theorem Tryz.infoPing : (Tryz.prog.info? 33).map (fun i => (i.zero, i.size, i.bytes)) = some (some (.agg #[.int .i64 0, .slice none 0 0]), 2, 32) := by kernel_rfl

/-- The pairs that are read from a place on. -/
def pairsAt (d : Int) (s : ByteArray) (next : Int) : Nat → List PairD
  | 0 => []
  | k + 1 => pairsAt d s next k ++ [⟨byteOr d s (next + 2 * k), byteOr d s (next + 2 * k + 1)⟩]

def pairCells (ps : List PairD) : List Value := ps.flatMap fun p => [.int .i64 p.reg, .int .i64 p.place]

theorem pairCells_snoc (ps : List PairD) (a b : Int) : pairCells (ps ++ [⟨a, b⟩]) = pairCells ps ++ [.int .i64 a, .int .i64 b] := by
  simp [pairCells]

theorem pairsAt_length (d : Int) (s : ByteArray) (next : Int) (k : Nat) : (pairsAt d s next k).length = k := by
  induction k with
  | zero => rfl
  | succ k ih => simp [pairsAt, ih]

theorem two_new (w : World) (x y : Value) (t : TypeId) : ∀ j u, [x, y][j]? = some u → (w.alloc (.cells #[x, y] t)).cell? ((⟨w.heap.size, 0, none⟩ : Addr).add j) = some u := by
  intro j u hj
  match j, hj with
  | 0, hj => simp at hj; subst hj; simp [Addr.add]
  | 1, hj => simp at hj; subst hj; simp [Addr.add]

theorem byteOr_bd (d : Int) (s : ByteArray) (i : Int) (hd : -1 ≤ d ∧ d ≤ 255) : -1 ≤ byteOr d s i ∧ byteOr d s i ≤ 255 := by
  unfold byteOr
  split
  · have := (s[i.toNat]!).toNat_lt; omega
  · exact hd

set_option maxHeartbeats 1000000 in
set_option maxRecDepth 100000 in
theorem pairingAt_any (s : ByteArray) (at_ : Int) (w : World) (hs : s.size ≤ maxLen) (ha : 0 ≤ at_) (ha2 : at_ ≤ 1000000) :
    Calls Tryz.prog 97 #[.string s, .int .i64 at_] w fun e w' => ∃ sv, e = .returned (.agg #[.int .i64 (byteOr (-1) s at_), sv]) ∧
      w'.ownsRow w.heap.size 38 2 sv (byteOr (-1) s (at_ + 1)).toNat (pairCells (pairsAt (-1) s (at_ + 2) (byteOr (-1) s (at_ + 1)).toNat)) ∧ Below w.heap.size w w' := by
  obtain ⟨i0, hi, hz0, hz1, hz2⟩ := info_parts Tryz.infoPair
  have hcb := byteOr_bd (-1) s (at_ + 1) (by omega)
  generalize hcn : byteOr (-1) s (at_ + 1) = c at *
  generalize hsn : byteOr (-1) s at_ = src at *
  go_enter Tryz.func97, Tryz.ntmps97
  go_wp2_with (go_at_call 63; refine (byteAt_any _ _ _ hs).mono ?_; rintro e w' ⟨rfl, rfl⟩)
  clear hcn hsn
  go_loopw [7, 8] (fun nx i wr => ∃ (k : Nat) (sv : Value), k ≤ c.toNat ∧ i = .int .i64 k ∧ nx = .int .i64 (at_ + 2 + 2 * k) ∧ wr.cell? ⟨w.heap.size + 1, 0, none⟩ = some (.int .i64 src) ∧ wr.cell? ⟨w.heap.size + 1, 1, none⟩ = some sv ∧
      wr.frozen? ⟨w.heap.size + 1, 1, none⟩ = false ∧ wr.ownsRow (w.heap.size + 2) 38 2 sv k (pairCells (pairsAt (-1) s (at_ + 2) k)) ∧ Below (w.heap.size + 1) (w.alloc (.cells #[.int .i64 0, .slice none 0 0] 33)) wr ∧ w.heap.size + 2 ≤ wr.heap.size)
    (fun _ i _ => c.toNat - (intOf i).toNat)
  case atStart =>
    refine ⟨0, .slice none 0 0, Nat.zero_le _, rfl, by simp, by simp, by simp, by simp, World.ownsRow_nil _ _ _ _, ?_, by simp⟩
    exact (Below.refl _ _).alloc (by simp) _
  case round =>
    obtain ⟨k, sv, hk, rfl, rfl, hx0, hx1, hxf, hown, hbel, hz⟩ := hrel
    obtain ⟨ao, cp, rfl⟩ := owns_slice hown
    have hzl : w.heap.size + 1 < wr.heap.size := by omega
    have hzm : w.heap.size < wr.heap.size := by omega
    have r0 : wr.cell? ⟨w.heap.size, 0, none⟩ = some (.int .i64 0) := (hbel.cell (by simp)).trans (by simp)
    have r1 : wr.cell? ⟨w.heap.size, 1, none⟩ = some (.slice none 0 0) := (hbel.cell (by simp)).trans (by simp)
    have rf0 : wr.frozen? ⟨w.heap.size, 0, none⟩ = false := (hbel.frozen (by simp)).trans (by simp)
    have rf1 : wr.frozen? ⟨w.heap.size, 1, none⟩ = false := (hbel.frozen (by simp)).trans (by simp)
    by_cases hlt : (k : Int) < c
    · have HS : Hid (pairsAt (-1) s (at_ + 2) (k + 1) = pairsAt (-1) s (at_ + 2) k ++ [⟨byteOr (-1) s (at_ + 2 + 2 * k), byteOr (-1) s (at_ + 2 + 2 * k + 1)⟩]) := rfl
      go_wp2_with (first | (go_at_call 63; refine (byteAt_any _ _ _ hs).mono ?_; rintro e w' ⟨rfl, rfl⟩) | (at_builtin; refine wpList_append_own _ rfl _ _ 31 rfl (w.heap.size + 2) 38 i0 (.agg #[.int .i64 0, .int .i64 0]) 2 16 Tryz.underlying31 hi hz0 hz1 hz2 rfl (by decide) _ _ _ rfl ((hown.alloc _).alloc _) ⟨wr.heap.size + 1, 0, none⟩ 1 1 [.int .i64 (byteOr (-1) s (at_ + 2 + 2 * k)), .int .i64 (byteOr (-1) s (at_ + 2 + 2 * k + 1))] rfl rfl ?c1 ?c2 ?c3 ?c4 ?c5 ?_))
      case c1 => simpa using two_new (wr.alloc _) _ _ _
      case c2 => intro u hu; simp at hu; rcases hu with rfl | rfl <;> rfl
      case c3 => unfold maxLen; omega
      case c4 => omega
      case c5 => simp; omega
      intro v' w1 hown' hgrow _
      rw [← pairCells_snoc, ← HS.out] at hown'
      have hb2 := ((((Below.refl (w.heap.size + 2) wr).alloc hz _).alloc (by simp; omega) _).grown hgrow (by simp; omega) (fun g hg => (hown.lt g hg).1))
      have y0 := (hb2.cell (p := ⟨w.heap.size + 1, 0, none⟩) (by simp)).trans hx0
      have y1 := (hb2.cell (p := ⟨w.heap.size + 1, 1, none⟩) (by simp)).trans hx1
      have yf := (hb2.frozen (p := ⟨w.heap.size + 1, 1, none⟩) (by simp)).trans hxf
      have hz2 := hb2.size
      have hb3 := (hbel.trans (hb2.mono (by omega)))
      obtain ⟨ao', cp', rfl⟩ := owns_slice hown'
      clear hgrow hown hx0 hx1 hxf r0 r1 rf0 rf1 hb2 hbel
      go_wp2
      go_roundw
      case rel =>
        refine ⟨k + 1, _, by omega, by go_num, by go_num, ?_, ?_, ?_, ownsRow_setCell_below hown' (by simp) _, hb3.setCell (by simp) _, by simp; omega⟩
        · exact cell_unset (by simp) y0
        · exact cell_set y1
        · simp [yf]
      case measure => simp [intOf]; omega
    · obtain rfl : k = c.toNat := by omega
      go_wp2
      refine bodyPost_ret (v := .agg #[.int .i64 src, .slice ao c.toNat cp]) (by simp [results, Tryz.results97, go_sem, r0, r1]) rfl ⟨_, rfl, ?_, ?_⟩
      · exact owns_base (ownsRow_setCell_below (ownsRow_setCell_below hown (by simp) _) (by simp) _) (by omega)
      · exact ((Below.under hbel).setCell (by simp) _).setCell (by simp) _

end Go.Proofs.YtblhmeidbjigaabGreatDoor

/- Hints that lie in memory of their own, each list for itself. -/
set_option linter.unusedSimpArgs false
set_option linter.unusedVariables false
namespace Go.Proofs.YtblhmeidbjigaabGreatDoor
open Go.RowKit

section
variable {w w' : World} {base base' : Nat} {e : TypeId} {size : Nat} {v : Value} {n : Nat} {xs : List Value}

/-- What lies in a block that has not turned. -/
theorem owns_same (h : w.ownsRow base e size v n xs) (hb : ∀ g, v.ownBlock = some g → w'.heap[g]? = w.heap[g]?) : w'.ownsRow base e size v n xs := by
  refine ⟨h.1, ?_⟩
  rcases h.2 with h2 | ⟨g, cap, cur, rfl, hg, hh, r⟩
  · exact .inl h2
  · exact .inr ⟨g, cap, cur, rfl, hg, (hb g rfl).trans hh, r⟩

theorem owns_below {B : Nat} (h : w.ownsRow base e size v n xs) (hb : Below B w w') (hB : w.heap.size ≤ B) : w'.ownsRow base e size v n xs :=
  owns_same h fun g hg => hb.block g (Nat.lt_of_lt_of_le (h.lt g hg).2 hB)

/-- Rows of different types lie in different blocks. -/
theorem owns_apart {e' : TypeId} {size' : Nat} {v' : Value} {n' : Nat} {xs' : List Value} (h : w.ownsRow base e size v n xs) (h' : w.ownsRow base' e' size' v' n' xs') (he : e ≠ e') : ∀ g, v.ownBlock = some g → v'.ownBlock ≠ some g := by
  intro g hg hg'
  rcases h.2 with ⟨rfl, _⟩ | ⟨k, cap, cur, rfl, _, hh, _⟩
  · simp [Value.ownBlock] at hg
  rcases h'.2 with ⟨rfl, _⟩ | ⟨k', cap', cur', rfl, _, hh', _⟩
  · simp [Value.ownBlock] at hg'
  simp [Value.ownBlock] at hg hg'
  subst hg; subst hg'
  rw [hh] at hh'
  simp at hh'
  exact he hh'.2

theorem owns_cell (h : w.ownsRow base e size v n xs) {ao : Option Addr} {cap : Nat} (hv : v = .slice ao n cap) {i : Nat} (hi : i < xs.length) :
    ∃ b, ao = some ⟨b, 0, none⟩ ∧ base ≤ b ∧ v.ownBlock = some b ∧ w.cell? ⟨b, i, none⟩ = some xs[i] := by
  rcases h.2 with ⟨h1, h0⟩ | ⟨g, cap', cur, h1, hg, hh, r⟩
  · have := h.1
    simp [h0] at this
    simp [this] at hi
  · subst hv
    simp at h1
    obtain ⟨rfl, rfl⟩ := h1
    refine ⟨g, rfl, hg, rfl, ?_⟩
    have := h.cells (g := g) rfl i xs[i] (by simp)
    rwa [Addr.add_lit, Nat.zero_add] at this

theorem owns_le (h : w.ownsRow base e size v n xs) : n ≤ 9223372036854775807 := by
  rcases h.2 with ⟨h1, h0⟩ | ⟨g, cap', cur, h1, hg, hh, h2, h3, r⟩
  · omega
  · unfold maxLen at h3; omega
end

theorem pairCells_length (ps : List PairD) : (pairCells ps).length = ps.length * 2 := by
  induction ps with
  | nil => rfl
  | cons p r ih => simp only [pairCells, List.flatMap_cons, List.length_append, List.length_cons, List.length_nil] at *; omega

theorem pairCells_get (ps : List PairD) (i : Nat) (hi : i < ps.length) : (pairCells ps)[i * 2]? = some (.int .i64 (preg ps i)) ∧ (pairCells ps)[i * 2 + 1]? = some (.int .i64 (pplace ps i)) := by
  induction ps generalizing i with
  | nil => simp at hi
  | cons p r ih =>
    cases i with
    | zero => exact ⟨rfl, rfl⟩
    | succ i =>
      have h := ih i (by simpa using hi)
      have e1 : (i + 1) * 2 = i * 2 + 1 + 1 := by omega
      rw [e1]
      exact h

def pingCells (hv : List (PingD × Value)) : List Value := hv.flatMap fun x => [.int .i64 x.1.src, x.2]

theorem pingCells_snoc (hv : List (PingD × Value)) (x : PingD) (sv : Value) : pingCells (hv ++ [(x, sv)]) = pingCells hv ++ [.int .i64 x.src, sv] := by
  simp [pingCells]

theorem pingCells_length (hv : List (PingD × Value)) : (pingCells hv).length = hv.length * 2 := by
  induction hv with
  | nil => rfl
  | cons p r ih => simp only [pingCells, List.flatMap_cons, List.length_append, List.length_cons, List.length_nil] at *; omega

theorem pingCells_get (hv : List (PingD × Value)) (i : Nat) (hi : i < hv.length) : (pingCells hv)[i * 2]? = some (.int .i64 hv[i].1.src) ∧ (pingCells hv)[i * 2 + 1]? = some hv[i].2 := by
  induction hv generalizing i with
  | nil => simp at hi
  | cons p r ih =>
    cases i with
    | zero => exact ⟨rfl, rfl⟩
    | succ i =>
      have h := ih i (by simpa using hi)
      have e1 : (i + 1) * 2 = i * 2 + 1 + 1 := by omega
      rw [e1]
      exact h

/-- The hint hv lies at v, in memory from block base on, each list in a block of its own. -/
structure OwnHint (w : World) (base : Nat) (v : Value) (hv : List (PingD × Value)) : Prop where
  row : w.ownsRow base 33 2 v hv.length (pingCells hv)
  each : ∀ x ∈ hv, w.ownsRow base 38 2 x.2 x.1.pairs.length (pairCells x.1.pairs)
  apart : hv.Pairwise fun x y => ∀ g, x.2.ownBlock = some g → y.2.ownBlock ≠ some g

def hdat (hv : List (PingD × Value)) : List PingD := hv.map (·.1)

theorem ownHint_nil (w : World) (base : Nat) : OwnHint w base (.slice none 0 0) [] :=
  ⟨World.ownsRow_nil _ _ _ _, fun x hx => by simp at hx, List.Pairwise.nil⟩

theorem OwnHint.below {w w' : World} {base : Nat} {v : Value} {hv : List (PingD × Value)} (h : OwnHint w base v hv) {B : Nat} (hb : Below B w w') (hB : w.heap.size ≤ B) : OwnHint w' base v hv :=
  ⟨owns_below h.row hb hB, fun x hx => owns_below (h.each x hx) hb hB, h.apart⟩

theorem OwnHint.alloc {w : World} {base : Nat} {v : Value} {hv : List (PingD × Value)} (h : OwnHint w base v hv) (o : Obj) : OwnHint (w.alloc o) base v hv :=
  ⟨h.row.alloc o, fun x hx => (h.each x hx).alloc o, h.apart⟩

theorem OwnHint.set {w : World} {base : Nat} {v : Value} {hv : List (PingD × Value)} (h : OwnHint w base v hv) {a : Addr} (ha : a.block < base) (u : Value) : OwnHint (w.setCell a u) base v hv :=
  ⟨ownsRow_setCell_below h.row ha u, fun x hx => ownsRow_setCell_below (h.each x hx) ha u, h.apart⟩

theorem OwnHint.base {w : World} {base base' : Nat} {v : Value} {hv : List (PingD × Value)} (h : OwnHint w base v hv) (hb : base' ≤ base) : OwnHint w base' v hv :=
  ⟨owns_base h.row hb, fun x hx => owns_base (h.each x hx) hb, h.apart⟩

/-- One block more, behind an append. -/
theorem OwnHint.snoc {w w' : World} {base : Nat} {v v' : Value} {hv : List (PingD × Value)} (h : OwnHint w base v hv) {x : PingD} {sv : Value}
    (hx : w.ownsRow base 38 2 sv x.pairs.length (pairCells x.pairs)) (hfree : ∀ y ∈ hv, ∀ g, y.2.ownBlock = some g → sv.ownBlock ≠ some g)
    (hg : w.grownBy w' v.ownBlock) (hown : w'.ownsRow base 33 2 v' (hv.length + 1) (pingCells hv ++ [.int .i64 x.src, sv])) : OwnHint w' base v' (hv ++ [(x, sv)]) := by
  have keep : ∀ (u : Value) (ps : List PairD), w.ownsRow base 38 2 u ps.length (pairCells ps) → w'.ownsRow base 38 2 u ps.length (pairCells ps) := by
    intro u ps hu
    refine hu.kept hg ?_
    cases hb : u.ownBlock with
    | none => exact .inl rfl
    | some g => exact .inr (fun e => owns_apart hu h.row (by decide) g hb e.symm)
  refine ⟨by rw [pingCells_snoc]; simpa using hown, ?_, ?_⟩
  · intro y hy
    rcases List.mem_append.1 hy with hy | hy
    · exact keep _ _ (h.each y hy)
    · simp at hy; subst hy; exact keep _ _ hx
  · rw [List.pairwise_append]
    refine ⟨h.apart, by simp, ?_⟩
    intro a ha b hb
    simp at hb
    subst hb
    exact hfree a ha

theorem owns_rdPairs {w : World} {base : Nat} {v : Value} {ps : List PairD} (h : w.ownsRow base 38 2 v ps.length (pairCells ps)) : RdPairs w v ps := by
  obtain ⟨ao, cap, hv⟩ := owns_slice h
  refine ⟨ao, cap, hv, owns_le h, fun i hi => ?_⟩
  have hl := pairCells_length ps
  obtain ⟨b, hao, _, hb, hc⟩ := owns_cell h hv (i := i * 2) (by omega)
  obtain ⟨b', hao', _, hb', hc'⟩ := owns_cell h hv (i := i * 2 + 1) (by omega)
  have : b = b' := by rw [hb] at hb'; simpa using hb'
  subst this
  obtain ⟨g1, g2⟩ := pairCells_get ps i hi
  refine ⟨b, 0, hao, ?_, ?_⟩
  · rw [Nat.zero_add, hc]; rw [List.getElem?_eq_getElem (by omega)] at g1; exact g1
  · rw [Nat.zero_add, hc']; rw [List.getElem?_eq_getElem (by omega)] at g2; exact g2

theorem hdat_get (hv : List (PingD × Value)) {i : Nat} (hi : i < hv.length) : hsrc (hdat hv) i = hv[i].1.src ∧ hpairs (hdat hv) i = hv[i].1.pairs := by
  constructor <;> simp [hsrc, hpairs, hdat, hi]

theorem hdat_length (hv : List (PingD × Value)) : (hdat hv).length = hv.length := by simp [hdat]

theorem OwnHint.rd {w : World} {base : Nat} {v : Value} {hv : List (PingD × Value)} (h : OwnHint w base v hv) : RdHint w v (hdat hv) := by
  obtain ⟨ao, cap, hv'⟩ := owns_slice h.row
  refine ⟨ao, cap, by rw [hdat_length]; exact hv', by rw [hdat_length]; exact owns_le h.row, fun i hi => ?_⟩
  rw [hdat_length] at hi
  have hl := pingCells_length hv
  obtain ⟨b, hao, _, hb, hc⟩ := owns_cell h.row hv' (i := i * 2) (by omega)
  obtain ⟨b', hao', _, hb', hc'⟩ := owns_cell h.row hv' (i := i * 2 + 1) (by omega)
  have : b = b' := by rw [hb] at hb'; simpa using hb'
  subst this
  obtain ⟨g1, g2⟩ := pingCells_get hv i hi
  obtain ⟨e1, e2⟩ := hdat_get hv hi
  refine ⟨b, 0, hv[i].2, hao, ?_, ?_, ?_⟩
  · rw [Nat.zero_add, hc, e1]; rw [List.getElem?_eq_getElem (by omega)] at g1; exact g1
  · rw [Nat.zero_add, hc']; rw [List.getElem?_eq_getElem (by omega)] at g2; exact g2
  · rw [e2]; exact owns_rdPairs (h.each _ (by simp))

end Go.Proofs.YtblhmeidbjigaabGreatDoor

/- DecodeHint in the codec. -/
set_option linter.unusedSimpArgs false
set_option linter.unusedVariables false
namespace Go.Proofs.YtblhmeidbjigaabGreatDoor
open Go.RowKit

set_option maxHeartbeats 400000 in
theorem pairingSize_any (src : Int) (ao : Option Addr) (n cap : Nat) (w : World) (hn : n ≤ 1000) :
    Calls Tryz.prog 98 #[.agg #[.int .i64 src, .slice ao n cap]] w fun e w' => e = .returned (.int .i64 (2 + 2 * n)) ∧ Below w.heap.size w w' := by
  go_enter Tryz.func98, Tryz.ntmps98
  go_wp2
  go_ret
  exact ⟨by simp, (Below.refl _ _).alloc (Nat.le_refl _) _⟩

/-- The block that is read at a place. -/
def pingAt (d : Int) (s : ByteArray) (p : Int) : PingD := ⟨byteOr d s p, pairsAt d s (p + 2) (byteOr d s (p + 1)).toNat⟩

/-- Where the k-th block begins. -/
def atOf (s : ByteArray) : Nat → Int
  | 0 => 3
  | k + 1 => atOf s k + (2 + 2 * (byteOr (-1) s (atOf s k + 1)).toNat)

/-- The first k blocks that are read. -/
def pingsOf (s : ByteArray) : Nat → List PingD
  | 0 => []
  | k + 1 => pingsOf s k ++ [pingAt (-1) s (atOf s k)]

theorem atOf_bd (s : ByteArray) (k : Nat) : 3 ≤ atOf s k ∧ atOf s k ≤ 3 + 512 * k := by
  induction k with
  | zero => simp [atOf]
  | succ k ih =>
    have := byteOr_bd (-1) s (atOf s k + 1) (by omega)
    simp only [atOf]
    omega

def readsHint (s : ByteArray) : Bool :=
  decide (byteOr (-1) s 0 = 84) && decide (byteOr (-1) s 1 = 72) && decide (atOf s (byteOr (-1) s 2).toNat = s.size) && goodHint (pingsOf s (byteOr (-1) s 2).toNat)

set_option maxRecDepth 100000 in
set_option maxHeartbeats 2000000 in
theorem cDecodeHint_cps (s : ByteArray) (w : World) (hs : s.size ≤ maxLen) (Post : Ending → World → Prop)
    (hyes : ∀ v hv w', readsHint s = true → OwnHint w' w.heap.size v hv → hdat hv = pingsOf s (byteOr (-1) s 2).toNat → Below w.heap.size w w' → Post (.returned (.tuple #[.agg #[v], .int .i64 0])) w')
    (hno : ∀ w', readsHint s = false → Below w.heap.size w w' → Post (.returned (.tuple #[.agg #[.slice none 0 0], .int .i64 2])) w') :
    Calls Tryz.prog 59 #[.string s] w Post := by
  obtain ⟨i0, ii, iz0, iz1, iz2⟩ := info_parts Tryz.infoPing
  have hcb := byteOr_bd (-1) s 2 (by omega)
  have hsz := hs
  unfold maxLen at hsz
  by_cases h0 : byteOr (-1) s 0 = 84
  case neg =>
    have hRf : readsHint s = false := by simp [readsHint, h0]
    have hno' := fun w' => hno w' hRf
    clear hno hyes hRf
    have hb : (byteOr (-1) s 0 != 84) = true := by simp [h0]
    go_enter Tryz.func59, Tryz.ntmps59
    go_wp2_with (go_at_call 63; refine (byteAt_any _ _ _ hs).mono ?_; rintro e w' ⟨rfl, rfl⟩)
    exact bodyPost_ret (v := .tuple #[.agg #[.slice none 0 0], .int .i64 2]) (by simp [results, Tryz.results59, go_sem]) rfl (hno' _ ((Below.refl _ _).alloc (Nat.le_refl _) _))
  by_cases h1 : byteOr (-1) s 1 = 72
  case neg =>
    have hRf : readsHint s = false := by simp [readsHint, h1]
    have hno' := fun w' => hno w' hRf
    clear hno hyes hRf
    have hb : (byteOr (-1) s 1 != 72) = true := by simp [h1]
    go_enter Tryz.func59, Tryz.ntmps59
    go_wp2_with (go_at_call 63; refine (byteAt_any _ _ _ hs).mono ?_; rintro e w' ⟨rfl, rfl⟩)
    exact bodyPost_ret (v := .tuple #[.agg #[.slice none 0 0], .int .i64 2]) (by simp [results, Tryz.results59, go_sem]) rfl (hno' _ ((Below.refl _ _).alloc (Nat.le_refl _) _))
  have HR : Hid (readsHint s = (decide (atOf s (byteOr (-1) s 2).toNat = s.size) && goodHint (pingsOf s (byteOr (-1) s 2).toNat))) := by show _ = _; simp [readsHint, h0, h1]
  generalize hcn : byteOr (-1) s 2 = c at *
  have HY := Hid.out (p := ∀ v hv w', readsHint s = true → OwnHint w' w.heap.size v hv → hdat hv = pingsOf s c.toNat → Below w.heap.size w w' → Post (.returned (.tuple #[.agg #[v], .int .i64 0])) w') hyes
  go_enter Tryz.func59, Tryz.ntmps59
  go_wp2_with (go_at_call 63; refine (byteAt_any _ _ _ hs).mono ?_; rintro e w' ⟨rfl, rfl⟩)
  clear hcn h0 h1
  go_loopw [6, 7] (fun p i wr => ∃ (k : Nat) (v : Value) (hv : List (PingD × Value)), k ≤ c.toNat ∧ i = .int .i64 k ∧ p = .int .i64 (atOf s k) ∧ wr.cell? ⟨w.heap.size + 1, 0, none⟩ = some v ∧
      wr.frozen? ⟨w.heap.size + 1, 0, none⟩ = false ∧ OwnHint wr (w.heap.size + 2) v hv ∧ Hid (hdat hv = pingsOf s k) ∧ Hid (hv.length = k) ∧ Below (w.heap.size + 1) (w.alloc (.cells #[.slice none 0 0] 30)) wr ∧ w.heap.size + 2 ≤ wr.heap.size)
    (fun _ i _ => c.toNat - (intOf i).toNat)
  case atStart =>
    refine ⟨0, .slice none 0 0, [], Nat.zero_le _, rfl, rfl, by simp, by simp, ownHint_nil _ _, rfl, rfl, ?_, by simp⟩
    exact (Below.refl _ _).alloc (by simp) _
  case round =>
    obtain ⟨k, v, hv, hk, rfl, rfl, hx0, hxf, hown, hdt, hvl, hbel, hz⟩ := hrel
    obtain ⟨ao, cp, rfl⟩ := owns_slice hown.row
    have hzl : w.heap.size + 1 < wr.heap.size := by omega
    have hzm : w.heap.size < wr.heap.size := by omega
    have r0 : wr.cell? ⟨w.heap.size, 0, none⟩ = some (.slice none 0 0) := (hbel.cell (by simp)).trans (by simp)
    have rf0 : wr.frozen? ⟨w.heap.size, 0, none⟩ = false := (hbel.frozen (by simp)).trans (by simp)
    have hab := atOf_bd s k
    by_cases hlt : (k : Int) < c
    · go_wp2_with fail
      refine (pairingAt_any s _ _ hs (by omega) (by omega)).mono ?_
      rintro e w1 ⟨sv, rfl, hsv, hb1⟩
      have HX : Hid (pingsOf s (k + 1) = pingsOf s k ++ [⟨byteOr (-1) s (atOf s k), pairsAt (-1) s (atOf s k + 2) (byteOr (-1) s (atOf s k + 1)).toNat⟩]) := rfl
      have HA : Hid (atOf s (k + 1) = atOf s k + (2 + 2 * (byteOr (-1) s (atOf s k + 1)).toNat)) := rfl
      have hmb := byteOr_bd (-1) s (atOf s k + 1) (by omega)
      have hpl := pairsAt_length (-1) s (atOf s k + 2) (byteOr (-1) s (atOf s k + 1)).toNat
      have hm : (byteOr (-1) s (atOf s k + 1)).toNat ≤ 255 := by omega
      clear hmb
      generalize (byteOr (-1) s (atOf s k + 1)).toNat = m at *
      generalize byteOr (-1) s (atOf s k) = src at *
      generalize pairsAt (-1) s (atOf s k + 2) m = ps at *
      subst hpl
      obtain ⟨so, sc, rfl⟩ := owns_slice hsv
      have own1 := hown.below hb1 (Nat.le_refl _)
      have x0 := (hb1.cell (p := ⟨w.heap.size + 1, 0, none⟩) hzl).trans hx0
      have xf := (hb1.frozen (p := ⟨w.heap.size + 1, 0, none⟩) hzl).trans hxf
      have hz1 := hb1.size
      have hzl1 : w.heap.size + 1 < w1.heap.size := by omega
      go_wp2_with (at_builtin; refine wpList_append_own _ rfl _ _ 28 rfl (w.heap.size + 2) 33 i0 (.agg #[.int .i64 0, .slice none 0 0]) 2 32 Tryz.underlying28 ii iz0 iz1 iz2 rfl (by decide) _ _ _ rfl ((own1.row.alloc _).alloc _) ⟨w1.heap.size + 1, 0, none⟩ 1 1 [.int .i64 src, .slice so ps.length sc] rfl rfl ?c1 ?c2 ?c3 ?c4 ?c5 ?_)
      case c1 => simpa using two_new (w1.alloc _) _ _ _
      case c2 => intro u hu; simp at hu; rcases hu with rfl | rfl <;> rfl
      case c3 => have := hvl.out; unfold maxLen; omega
      case c4 => have := hvl.out; omega
      case c5 => simp; omega
      intro v' w2 hown' hgrow _
      have hne : ∀ g, w1.heap.size ≤ g → some g ≠ (Value.slice ao hv.length cp).ownBlock := fun g hg e => by have := (own1.row.lt _ e.symm).2; omega
      have own2 : OwnHint w2 (w.heap.size + 2) v' (hv ++ [(⟨src, ps⟩, .slice so ps.length sc)]) := by
        refine ((own1.alloc _).alloc _).snoc (x := ⟨src, ps⟩) ((owns_base hsv (by omega)).alloc _ |>.alloc _) ?_ hgrow hown'
        intro y hy g hg e
        have e1 := ((hown.each y hy).lt g hg).2
        have e2 := (hsv.lt g e).1
        omega
      have hb2 := ((((Below.refl (w.heap.size + 2) w1).alloc (by omega) _).alloc (by simp; omega) _).grown hgrow (by simp; omega) (fun g hg => (own1.row.lt g hg).1))
      have y0 := (hb2.cell (p := ⟨w.heap.size + 1, 0, none⟩) (by simp)).trans x0
      have yf := (hb2.frozen (p := ⟨w.heap.size + 1, 0, none⟩) (by simp)).trans xf
      have z0 : w2.cell? ⟨w1.heap.size, 0, none⟩ = some (.int .i64 src) := hgrow.cell (by simp) (hne _ (Nat.le_refl _))
      have z1 : w2.cell? ⟨w1.heap.size, 1, none⟩ = some (.slice so ps.length sc) := hgrow.cell (by simp) (hne _ (Nat.le_refl _))
      have hz2 := hb2.size
      have hzl2 : w.heap.size + 1 < w2.heap.size := by omega
      have hzn : w1.heap.size ≠ w.heap.size + 1 := by omega
      have hb3 := (hbel.trans (hb1.mono (by omega))).trans (hb2.mono (by omega))
      obtain ⟨ao', cp', hv'⟩ := owns_slice own2.row
      rw [List.length_append] at hv'
      simp only [List.length_cons, List.length_nil, Nat.zero_add] at hv'
      subst hv'
      have z0' : ∀ u, (w2.setCell ⟨w.heap.size + 1, 0, none⟩ u).cell? ⟨w1.heap.size, 0, none⟩ = some (.int .i64 src) := fun u => cell_unset (by simp) z0
      have z1' : ∀ u, (w2.setCell ⟨w.heap.size + 1, 0, none⟩ u).cell? ⟨w1.heap.size, 1, none⟩ = some (.slice so ps.length sc) := fun u => cell_unset (by simp) z1
      clear hgrow hown hown' own1 hsv hx0 hxf x0 xf r0 rf0 hb2 hbel hne
      go_wp2_with fail
      refine (pairingSize_any _ _ _ _ _ (by omega)).mono ?_
      rintro e w3 ⟨rfl, hb4⟩
      have own3 := (own2.set (a := ⟨w.heap.size + 1, 0, none⟩) (by simp) _).below hb4 (Nat.le_refl _)
      have hs3 := hb4.size
      have v0 := (hb4.cell (p := ⟨w.heap.size + 1, 0, none⟩) (by simp; omega)).trans (cell_set y0)
      have vf := (hb4.frozen (p := ⟨w.heap.size + 1, 0, none⟩) (by simp; omega)).trans (by simpa using yf)
      have hb5 := (hb3.setCell (p := ⟨w.heap.size + 1, 0, none⟩) (by simp) _).trans (hb4.mono (by simp; omega))
      simp at hs3
      clear hb4 own2 hb3 y0 yf z0 z1 z0' z1'
      go_wp2
      go_roundw
      case rel =>
        refine ⟨k + 1, _, _, by omega, by go_num, by rw [HA.out], v0, vf, own3, ?_, ?_, hb5, by omega⟩
        · show hdat _ = _
          rw [HX.out, ← hdt.out]; simp [hdat]
        · show List.length _ = _
          have := hvl.out
          simp; exact this
      case measure => simp [intOf]; omega
    · obtain rfl : k = c.toNat := by omega
      by_cases he : atOf s c.toNat = s.size
      case neg =>
        have hRf : readsHint s = false := by rw [HR.out]; simp [he]
        have hno' := fun w' => hno w' hRf
        clear hno hyes HY hRf HR
        have hb : (atOf s c.toNat != (s.size : Int)) = true := by simp [he]
        go_wp2
        refine bodyPost_ret (v := .tuple #[.agg #[.slice none 0 0], .int .i64 2]) (by simp [results, Tryz.results59, go_sem, r0]) rfl (hno' _ ?_)
        exact (Below.under hbel).setCell (by simp) _
      have hb : (atOf s c.toNat != (s.size : Int)) = false := by simp [he]
      cases hg : goodHint (pingsOf s c.toNat)
      · have hRf : readsHint s = false := by rw [HR.out]; simp [hg]
        have hno' := fun w' => hno w' hRf
        clear hno hyes HY hRf HR
        have hrd := hown.rd
        rw [hdt.out] at hrd
        go_wp2_with fail
        refine (wmHint_any _ _ _ hrd).mono ?_
        rintro e w1 ⟨rfl, hb1⟩
        have x0 := (hb1.cell (p := ⟨w.heap.size, 0, none⟩) hzm).trans r0
        have xf := (hb1.frozen (p := ⟨w.heap.size, 0, none⟩) hzm).trans rf0
        have hb2 := (Below.under hbel).trans (hb1.mono (by omega))
        clear r0 rf0 hx0 hxf hrd
        go_wp2
        refine bodyPost_ret (v := .tuple #[.agg #[.slice none 0 0], .int .i64 2]) (by simp [results, Tryz.results59, go_sem, x0]) rfl (hno' _ ?_)
        exact hb2.setCell (by simp) _
      · have hRf : readsHint s = true := by rw [HR.out]; simp [hg, he]
        have hrd := hown.rd
        rw [hdt.out] at hrd
        go_wp2_with fail
        refine (wmHint_any _ _ _ hrd).mono ?_
        rintro e w1 ⟨rfl, hb1⟩
        have x0 := (hb1.cell (p := ⟨w.heap.size, 0, none⟩) hzm).trans r0
        have xf := (hb1.frozen (p := ⟨w.heap.size, 0, none⟩) hzm).trans rf0
        have y0 := (hb1.cell (p := ⟨w.heap.size + 1, 0, none⟩) hzl).trans hx0
        have hb2 := (Below.under hbel).trans (hb1.mono (by omega))
        have own1 := (hown.below hb1 (Nat.le_refl _)).set (a := ⟨w.heap.size, 0, none⟩) (by simp) (.slice ao hv.length cp) |>.base (base' := w.heap.size) (by omega)
        have hfin := HY _ _ _ hRf own1 hdt.out (hb2.setCell (by simp) _)
        clear r0 rf0 hx0 hxf hrd hno hyes HY HR hown own1
        go_wp2
        exact bodyPost_ret (v := .tuple #[.agg #[.slice ao hv.length cp], .int .i64 0]) (by simp [results, Tryz.results59, go_sem, x0]) rfl hfin

end Go.Proofs.YtblhmeidbjigaabGreatDoor

/- Reading a hint, in the document's answer. -/
set_option linter.unusedSimpArgs false
set_option linter.unusedVariables false
namespace Go.Proofs.YtblhmeidbjigaabGreatDoor
open Go.RowKit

/-- How many pairs are read from k on, m being asked for, of a text of n bytes. -/
def jst (n : Int) (k : Int) (m : Nat) : Nat := min m ((n - k + 1) / 2).toNat

/-- Where the i-th block begins. -/
def rAt (s : ByteArray) : Nat → Int
  | 0 => 3
  | i + 1 => rAt s i + 2 + 2 * jst s.size (rAt s i + 2) (byteOr 0 s (rAt s i + 1)).toNat

/-- The first blocks that are read. -/
def rPings (s : ByteArray) : Nat → List PingD
  | 0 => []
  | i + 1 => rPings s i ++ [⟨byteOr 0 s (rAt s i), pairsAt 0 s (rAt s i + 2) (jst s.size (rAt s i + 2) (byteOr 0 s (rAt s i + 1)).toNat)⟩]

theorem byteOr0_bd (s : ByteArray) (i : Int) : 0 ≤ byteOr 0 s i ∧ byteOr 0 s i ≤ 255 := by
  unfold byteOr
  split
  · have := (s[i.toNat]!).toNat_lt; omega
  · omega

theorem jst_le (n k : Int) (m : Nat) : jst n k m ≤ m := by unfold jst; omega

theorem jst_eq {n k : Int} {m j : Nat} (h1 : j ≤ m) (h2 : j = 0 ∨ k + 2 * ((j : Int) - 1) < n) (h3 : ¬ ((j : Int) < m ∧ k + 2 * (j : Int) < n)) : j = jst n k m := by
  unfold jst
  by_cases hm : (j : Int) < m
  · have : ¬ k + 2 * (j : Int) < n := fun h => h3 ⟨hm, h⟩
    rcases h2 with h2 | h2 <;> omega
  · rcases h2 with h2 | h2 <;> omega

theorem rAt_bd (s : ByteArray) (i : Nat) : 3 ≤ rAt s i ∧ rAt s i ≤ 3 + 512 * i := by
  induction i with
  | zero => simp [rAt]
  | succ k ih =>
    have h1 := byteOr0_bd s (rAt s k + 1)
    have h2 := jst_le s.size (rAt s k + 2) (byteOr 0 s (rAt s k + 1)).toNat
    simp only [rAt]
    omega

/-- What the reading stops at. -/
structure RStop (s : ByteArray) (i : Nat) : Prop where
  done : ∀ j, j < i → (j : Int) < byteOr 0 s 2 ∧ rAt s j < s.size
  stop : ¬ ((i : Int) < byteOr 0 s 2 ∧ rAt s i < s.size)

theorem toList_ne {a b : ByteArray} (h : a ≠ b) : (a.toList == b.toList) = false := by
  rw [beq_eq_false_iff_ne]
  intro e
  rw [ByteArray.toList_eq, ByteArray.toList_eq] at e
  exact h (ByteArray.ext (Array.toList_inj.1 e))

/-- What the outer append leaves. -/
theorem ref_step {w wo wr w2 : World} {ao : Option Addr} {cp sc : Nat} {so : Option Addr} {hv : List (PingD × Value)} {src : Int} {ps : List PairD} {v' : Value} {O1 O2 : Obj}
    (hown : OwnHint wo (w.heap.size + 2) (.slice ao hv.length cp) hv) (hbin : Below wo.heap.size wo wr) (hrow : wr.ownsRow (wo.heap.size + 1) 38 2 (.slice so ps.length sc) ps.length (pairCells ps))
    (hbel : Below (w.heap.size + 1) (w.alloc O1) wo) (hx0 : wo.cell? ⟨w.heap.size + 1, 0, none⟩ = some (.slice ao hv.length cp)) (hxf : wo.frozen? ⟨w.heap.size + 1, 0, none⟩ = false) (hz : w.heap.size + 2 ≤ wo.heap.size)
    (hown' : w2.ownsRow (w.heap.size + 2) 33 2 v' (hv.length + 1) (pingCells hv ++ [.int .i64 src, .slice so ps.length sc])) (hgrow : (wr.alloc O2).grownBy w2 (Value.slice ao hv.length cp).ownBlock) :
    OwnHint w2 (w.heap.size + 2) v' (hv ++ [(⟨src, ps⟩, .slice so ps.length sc)]) ∧ w2.cell? ⟨w.heap.size + 1, 0, none⟩ = some (.slice ao hv.length cp) ∧ w2.frozen? ⟨w.heap.size + 1, 0, none⟩ = false ∧
      Below (w.heap.size + 1) (w.alloc O1) w2 ∧ w.heap.size + 2 ≤ w2.heap.size := by
  have hzr := hbin.size
  have own1 := hown.below hbin (Nat.le_refl _)
  have hb2 := (((Below.refl (w.heap.size + 2) wr).alloc (by omega) O2).grown hgrow (by simp; omega) (fun g hg => (own1.row.lt g hg).1))
  have hz2 := hb2.size
  refine ⟨?_, ?_, ?_, ?_, by omega⟩
  · refine (own1.alloc _).snoc (x := ⟨src, ps⟩) ((owns_base hrow (by omega)).alloc _) ?_ hgrow hown'
    intro y hy g hg e
    have e1 := ((hown.each y hy).lt g hg).2
    have e2 := (hrow.lt g e).1
    omega
  · exact (hb2.cell (p := ⟨w.heap.size + 1, 0, none⟩) (by simp)).trans ((hbin.cell (p := ⟨w.heap.size + 1, 0, none⟩) (by simp; omega)).trans hx0)
  · exact (hb2.frozen (p := ⟨w.heap.size + 1, 0, none⟩) (by simp)).trans ((hbin.frozen (p := ⟨w.heap.size + 1, 0, none⟩) (by simp; omega)).trans hxf)
  · exact (hbel.trans (hbin.mono (by omega))).trans (hb2.mono (by omega))

set_option maxRecDepth 100000 in
set_option maxHeartbeats 4000000 in
theorem rDecodeHint_cps (s : ByteArray) (w : World) (hs : s.size ≤ maxLen) (Post : Ending → World → Prop)
    (hyes : ∀ v hv w' i, RStop s i → OwnHint w' w.heap.size v hv → hdat hv = rPings s i → goodHint (hdat hv) = true → str (hintText (hdat hv)) = s → Below w.heap.size w w' → Post (.returned (.tuple #[.agg #[v], .bool true])) w')
    (hno : ∀ w' i, RStop s i → (goodHint (rPings s i) = true → str (hintText (rPings s i)) ≠ s) → Below w.heap.size w w' → Post (.returned (.tuple #[.agg #[.slice none 0 0], .bool false])) w') :
    Calls Tryz.prog 78 #[.string s] w Post := by
  obtain ⟨i0, ii, iz0, iz1, iz2⟩ := info_parts Tryz.infoPing
  obtain ⟨j0, ji, jz0, jz1, jz2⟩ := info_parts Tryz.infoPair
  have hcb := byteOr0_bd s 2
  have hsz := hs
  unfold maxLen at hsz
  obtain ⟨n, hn⟩ := Int.eq_ofNat_of_zero_le hcb.1
  have HN : Hid (byteOr 0 s 2 = n) := hn
  go_enter Tryz.func78, Tryz.ntmps78
  go_wp2_with (go_at_call 111; refine (at_any _ _ _ hs).mono ?_; rintro e w' ⟨rfl, rfl⟩)
  have hn255 : n ≤ 255 := by omega
  clear hcb hn
  go_loopw [6, 7] (fun p i wr => ∃ (k : Nat) (v : Value) (hv : List (PingD × Value)), k ≤ n ∧ i = .int .i64 k ∧ p = .int .i64 (rAt s k) ∧ wr.cell? ⟨w.heap.size + 1, 0, none⟩ = some v ∧
      wr.frozen? ⟨w.heap.size + 1, 0, none⟩ = false ∧ OwnHint wr (w.heap.size + 2) v hv ∧ Hid (hdat hv = rPings s k) ∧ Hid (hv.length = k) ∧ Hid (∀ j, j < k → (j : Int) < byteOr 0 s 2 ∧ rAt s j < s.size) ∧ Below (w.heap.size + 1) (w.alloc (.cells #[.slice none 0 0] 30)) wr ∧ w.heap.size + 2 ≤ wr.heap.size)
    (fun _ i _ => n - (intOf i).toNat)
  case atStart =>
    refine ⟨0, .slice none 0 0, [], Nat.zero_le _, rfl, rfl, by simp, by simp, ownHint_nil _ _, rfl, rfl, fun j hj => by omega, ?_, by simp⟩
    exact (Below.refl _ _).alloc (by simp) _
  case round =>
    obtain ⟨k, v, hv, hk, rfl, rfl, hx0, hxf, hown, hdt, hvl, hdn, hbel, hz⟩ := hrel
    obtain ⟨ao, cp, rfl⟩ := owns_slice hown.row
    have hzl : w.heap.size + 1 < wr.heap.size := by omega
    have hzm : w.heap.size < wr.heap.size := by omega
    have hab := rAt_bd s k
    by_cases hlt : (k : Int) < n ∧ rAt s k < s.size
    case neg =>
      have hst : Hid (RStop s k) := ⟨hdn.out, by rw [HN.out]; exact hlt⟩
      have hltn : (k : Int) < n → ¬ (rAt s k < s.size) := fun h1 h2 => hlt ⟨h1, h2⟩
      clear hlt hdn
      have r0 : wr.cell? ⟨w.heap.size, 0, none⟩ = some (.slice none 0 0) := (hbel.cell (by simp)).trans (by simp)
      have rf0 : wr.frozen? ⟨w.heap.size, 0, none⟩ = false := (hbel.frozen (by simp)).trans (by simp)
      have hrd := hown.rd
      rw [hdt.out] at hrd
      by_cases hq : (k : Int) < n
      · have hq2 := hltn hq
        clear hltn
        go_wp2_with fail
        refine (rGoodHint_any _ _ _ hrd).mono ?_
        rintro e w1 ⟨rfl, hb1⟩
        have x0 := (hb1.cell (p := ⟨w.heap.size, 0, none⟩) hzm).trans r0
        have xf := (hb1.frozen (p := ⟨w.heap.size, 0, none⟩) hzm).trans rf0
        have y0 := (hb1.cell (p := ⟨w.heap.size + 1, 0, none⟩) hzl).trans hx0
        have hz1 := hb1.size
        have hzl1 : w.heap.size + 1 < w1.heap.size := by omega
        have hzm1 : w.heap.size < w1.heap.size := by omega
        have hb2 := (Below.under hbel).trans (hb1.mono (by omega))
        have own1 := hown.below hb1 (Nat.le_refl _)
        have hrd1 := hrd.keep hb1
        clear r0 rf0 hx0 hxf hbel hown hb1 hrd
        cases hg : goodHint (rPings s k)
        · have hno' := fun w' => hno w' k hst.out (by simp [hg])
          clear hno hyes
          go_wp2
          refine bodyPost_ret (v := .tuple #[.agg #[.slice none 0 0], .bool false]) (by simp [results, Tryz.results78, go_sem, x0]) rfl (hno' _ ?_)
          exact hb2.setCell (by simp) _
        go_wp2_with fail
        refine (rHintText_any _ _ _ hrd1 hg).mono ?_
        rintro e w2 ⟨rfl, hb3⟩
        have u0 := (hb3.cell (p := ⟨w.heap.size, 0, none⟩) hzm1).trans x0
        have uf := (hb3.frozen (p := ⟨w.heap.size, 0, none⟩) hzm1).trans xf
        have t0 := (hb3.cell (p := ⟨w.heap.size + 1, 0, none⟩) hzl1).trans y0
        have hb4 := hb2.trans (hb3.mono (by omega))
        have own2 := own1.below hb3 (Nat.le_refl _)
        clear x0 xf y0 hb2 own1 hrd1 hb3
        by_cases ht : str (hintText (rPings s k)) = s
        · have hfin := hyes _ _ _ k hst.out (own2.set (a := ⟨w.heap.size, 0, none⟩) (by simp) (.slice ao hv.length cp) |>.base (base' := w.heap.size) (by omega)) hdt.out (by rw [hdt.out]; exact hg) (by rw [hdt.out]; exact ht) (hb4.setCell (by simp) _)
          rw [ht]
          clear ht hg hno hyes own2 hb4
          go_wp2
          exact bodyPost_ret (v := .tuple #[.agg #[.slice ao hv.length cp], .bool true]) (by simp [results, Tryz.results78, go_sem, u0]) rfl hfin
        · have hno' := fun w' => hno w' k hst.out (fun _ => ht)
          have hbs := toList_ne ht
          generalize str (hintText (rPings s k)) = tt at *
          clear hno hyes ht hg
          go_wp2
          refine bodyPost_ret (v := .tuple #[.agg #[.slice none 0 0], .bool false]) (by simp [results, Tryz.results78, go_sem, u0]) rfl (hno' _ ?_)
          exact hb4.setCell (by simp) _
      · clear hltn
        go_wp2_with fail
        refine (rGoodHint_any _ _ _ hrd).mono ?_
        rintro e w1 ⟨rfl, hb1⟩
        have x0 := (hb1.cell (p := ⟨w.heap.size, 0, none⟩) hzm).trans r0
        have xf := (hb1.frozen (p := ⟨w.heap.size, 0, none⟩) hzm).trans rf0
        have y0 := (hb1.cell (p := ⟨w.heap.size + 1, 0, none⟩) hzl).trans hx0
        have hz1 := hb1.size
        have hzl1 : w.heap.size + 1 < w1.heap.size := by omega
        have hzm1 : w.heap.size < w1.heap.size := by omega
        have hb2 := (Below.under hbel).trans (hb1.mono (by omega))
        have own1 := hown.below hb1 (Nat.le_refl _)
        have hrd1 := hrd.keep hb1
        clear r0 rf0 hx0 hxf hbel hown hb1 hrd
        cases hg : goodHint (rPings s k)
        · have hno' := fun w' => hno w' k hst.out (by simp [hg])
          clear hno hyes
          go_wp2
          refine bodyPost_ret (v := .tuple #[.agg #[.slice none 0 0], .bool false]) (by simp [results, Tryz.results78, go_sem, x0]) rfl (hno' _ ?_)
          exact hb2.setCell (by simp) _
        go_wp2_with fail
        refine (rHintText_any _ _ _ hrd1 hg).mono ?_
        rintro e w2 ⟨rfl, hb3⟩
        have u0 := (hb3.cell (p := ⟨w.heap.size, 0, none⟩) hzm1).trans x0
        have uf := (hb3.frozen (p := ⟨w.heap.size, 0, none⟩) hzm1).trans xf
        have t0 := (hb3.cell (p := ⟨w.heap.size + 1, 0, none⟩) hzl1).trans y0
        have hb4 := hb2.trans (hb3.mono (by omega))
        have own2 := own1.below hb3 (Nat.le_refl _)
        clear x0 xf y0 hb2 own1 hrd1 hb3
        by_cases ht : str (hintText (rPings s k)) = s
        · have hfin := hyes _ _ _ k hst.out (own2.set (a := ⟨w.heap.size, 0, none⟩) (by simp) (.slice ao hv.length cp) |>.base (base' := w.heap.size) (by omega)) hdt.out (by rw [hdt.out]; exact hg) (by rw [hdt.out]; exact ht) (hb4.setCell (by simp) _)
          rw [ht]
          clear ht hg hno hyes own2 hb4
          go_wp2
          exact bodyPost_ret (v := .tuple #[.agg #[.slice ao hv.length cp], .bool true]) (by simp [results, Tryz.results78, go_sem, u0]) rfl hfin
        · have hno' := fun w' => hno w' k hst.out (fun _ => ht)
          have hbs := toList_ne ht
          generalize str (hintText (rPings s k)) = tt at *
          clear hno hyes ht hg
          go_wp2
          refine bodyPost_ret (v := .tuple #[.agg #[.slice none 0 0], .bool false]) (by simp [results, Tryz.results78, go_sem, u0]) rfl (hno' _ ?_)
          exact hb4.setCell (by simp) _
    obtain ⟨hlt1, hlt2⟩ := hlt
    obtain ⟨wo, hwo⟩ : ∃ wo, wo = wr := ⟨_, rfl⟩
    subst hwo
    have HX : Hid (rPings s (k + 1) = rPings s k ++ [⟨byteOr 0 s (rAt s k), pairsAt 0 s (rAt s k + 2) (jst s.size (rAt s k + 2) (byteOr 0 s (rAt s k + 1)).toNat)⟩]) := rfl
    have HA : Hid (rAt s (k + 1) = rAt s k + 2 + 2 * jst s.size (rAt s k + 2) (byteOr 0 s (rAt s k + 1)).toNat) := rfl
    have hmb := byteOr0_bd s (rAt s k + 1)
    obtain ⟨m, hm⟩ := Int.eq_ofNat_of_zero_le hmb.1
    go_wp2_with (go_at_call 111; refine (at_any _ _ _ hs).mono ?_; rintro e w' ⟨rfl, rfl⟩)
    rw [hm, Int.toNat_natCast] at HX HA
    have hm255 : m ≤ 255 := by omega
    clear hmb hm
    generalize byteOr 0 s (rAt s k) = src at *
    obtain ⟨k0, hk0⟩ : ∃ k0, k0 = rAt s k + 2 := ⟨_, rfl⟩
    rw [← hk0] at HX HA
    have hk0b : 5 ≤ k0 ∧ k0 ≤ 1000000 := by omega
    have HK0 : Hid (k0 = rAt s k + 2) := hk0
    clear hk0
    have hlt3 := hlt2
    go_loopw [6, 10] (fun p i w2 => ∃ (j : Nat) (sv : Value), j ≤ m ∧ i = .int .i64 j ∧ p = .int .i64 (k0 + 2 * j) ∧ Hid (j = 0 ∨ k0 + 2 * ((j : Int) - 1) < s.size) ∧ w2.cell? ⟨wo.heap.size, 0, none⟩ = some (.int .i64 src) ∧ w2.cell? ⟨wo.heap.size, 1, none⟩ = some sv ∧
        w2.frozen? ⟨wo.heap.size, 1, none⟩ = false ∧ w2.ownsRow (wo.heap.size + 1) 38 2 sv j (pairCells (pairsAt 0 s k0 j)) ∧ Below wo.heap.size wo w2 ∧ wo.heap.size + 1 ≤ w2.heap.size)
      (fun _ i _ => m - (intOf i).toNat)
    case atStart =>
      refine ⟨0, .slice none 0 0, Nat.zero_le _, rfl, by rw [HK0.out]; simp, .inl rfl, by simp, by simp, by simp, World.ownsRow_nil _ _ _ _, ?_, by simp⟩
      exact (Below.refl _ _).alloc (by simp) _
    case round =>
      obtain ⟨j, sv, hj, rfl, rfl, hjs, y0, y1, yf, hrow, hbin, hzi⟩ := hrel
      obtain ⟨so, sc, rfl⟩ := owns_slice hrow
      have hzw : wo.heap.size < wr.heap.size := by omega
      by_cases hjl : (j : Int) < m ∧ k0 + 2 * (j : Int) < s.size
      case neg =>
        have hje := jst_eq hj hjs.out hjl
        rw [← hje] at HX HA
        have hjn : (j : Int) < m → ¬ (k0 + 2 * (j : Int) < s.size) := fun h1 h2 => hjl ⟨h1, h2⟩
        clear hjl hje hjs
        have hdn' : Hid (∀ i, i < k + 1 → (i : Int) < byteOr 0 s 2 ∧ rAt s i < s.size) := by
          intro i hi
          by_cases e : i = k
          · subst e; rw [HN.out]; exact ⟨hlt1, hlt2⟩
          · exact hdn.out i (by omega)
        have hpl := pairsAt_length 0 s k0 j
        generalize pairsAt 0 s k0 j = ps at *
        subst hpl
        have own1 := hown.below hbin (Nat.le_refl _)
        have x0 := (hbin.cell (p := ⟨w.heap.size + 1, 0, none⟩) hzl).trans hx0
        have xf := (hbin.frozen (p := ⟨w.heap.size + 1, 0, none⟩) hzl).trans hxf
        have hzl1 : w.heap.size + 1 < wr.heap.size := by omega
        have hne : ∀ g, wr.heap.size ≤ g → some g ≠ (Value.slice ao hv.length cp).ownBlock := fun g hg e => by have := (own1.row.lt _ e.symm).2; omega
        by_cases hq : (ps.length : Int) < m
        · have hq2 := hjn hq
          clear hjn
          go_wp2_with (at_builtin; refine wpList_append_own _ rfl _ _ 28 rfl (w.heap.size + 2) 33 i0 (.agg #[.int .i64 0, .slice none 0 0]) 2 32 Tryz.underlying28 ii iz0 iz1 iz2 rfl (by decide) _ _ _ rfl (own1.row.alloc _) ⟨wr.heap.size, 0, none⟩ 1 1 [.int .i64 src, .slice so ps.length sc] rfl rfl (two_new wr _ _ _) ?d2 ?d3 ?d4 ?d5 ?_)
          case d2 => first | exact ⟨rfl, rfl⟩ | (intro u hu; simp at hu; rcases hu with rfl | rfl <;> rfl)
          case d3 => have := hvl.out; unfold maxLen; omega
          case d4 => have := hvl.out; omega
          case d5 => first | omega | (simp; omega)
          intro v' w2 hown' hgrow _
          obtain ⟨own2, y0', yf', hb3, hz3⟩ := ref_step hown hbin hrow hbel hx0 hxf hz hown' hgrow
          obtain ⟨ao', cp', hv'⟩ := owns_slice own2.row
          rw [List.length_append] at hv'
          simp only [List.length_cons, List.length_nil, Nat.zero_add] at hv'
          subst hv'
          have hzl2 : w.heap.size + 1 < w2.heap.size := by omega
          clear hgrow hown hown' own1 hx0 hxf x0 xf hbel hne hbin hrow y0 y1 yf
          go_wp2
          go_roundw
          case rel =>
            refine ⟨k + 1, _, _, by omega, by go_num, by rw [HA.out, HK0.out], cell_set y0', by simp [yf'], own2.set (by simp) _, ?_, ?_, hdn', hb3.setCell (by simp) _, by simp; omega⟩
            · show hdat _ = _
              rw [HX.out, ← hdt.out]; simp [hdat]
            · show List.length _ = _
              have := hvl.out
              simp; exact this
          case measure => simp [intOf]; omega
        · clear hjn
          go_wp2_with (at_builtin; refine wpList_append_own _ rfl _ _ 28 rfl (w.heap.size + 2) 33 i0 (.agg #[.int .i64 0, .slice none 0 0]) 2 32 Tryz.underlying28 ii iz0 iz1 iz2 rfl (by decide) _ _ _ rfl (own1.row.alloc _) ⟨wr.heap.size, 0, none⟩ 1 1 [.int .i64 src, .slice so ps.length sc] rfl rfl (two_new wr _ _ _) ?e2 ?e3 ?e4 ?e5 ?_)
          case e2 => first | exact ⟨rfl, rfl⟩ | (intro u hu; simp at hu; rcases hu with rfl | rfl <;> rfl)
          case e3 => have := hvl.out; unfold maxLen; omega
          case e4 => have := hvl.out; omega
          case e5 => first | omega | (simp; omega)
          intro v' w2 hown' hgrow _
          obtain ⟨own2, y0', yf', hb3, hz3⟩ := ref_step hown hbin hrow hbel hx0 hxf hz hown' hgrow
          obtain ⟨ao', cp', hv'⟩ := owns_slice own2.row
          rw [List.length_append] at hv'
          simp only [List.length_cons, List.length_nil, Nat.zero_add] at hv'
          subst hv'
          have hzl2 : w.heap.size + 1 < w2.heap.size := by omega
          clear hgrow hown hown' own1 hx0 hxf x0 xf hbel hne hbin hrow y0 y1 yf
          go_wp2
          go_roundw
          case rel =>
            refine ⟨k + 1, _, _, by omega, by go_num, by rw [HA.out, HK0.out], cell_set y0', by simp [yf'], own2.set (by simp) _, ?_, ?_, hdn', hb3.setCell (by simp) _, by simp; omega⟩
            · show hdat _ = _
              rw [HX.out, ← hdt.out]; simp [hdat]
            · show List.length _ = _
              have := hvl.out
              simp; exact this
          case measure => simp [intOf]; omega
      obtain ⟨hj1, hj2⟩ := hjl
      have HS : Hid (pairsAt 0 s k0 (j + 1) = pairsAt 0 s k0 j ++ [⟨byteOr 0 s (k0 + 2 * j), byteOr 0 s (k0 + 2 * j + 1)⟩]) := rfl
      go_wp2_with (first | (go_at_call 111; refine (at_any _ _ _ hs).mono ?_; rintro e w' ⟨rfl, rfl⟩) | (at_builtin; refine wpList_append_own _ rfl _ _ 31 rfl (wo.heap.size + 1) 38 j0 (.agg #[.int .i64 0, .int .i64 0]) 2 16 Tryz.underlying31 ji jz0 jz1 jz2 rfl (by decide) _ _ _ rfl ((hrow.alloc _).alloc _) ⟨wr.heap.size + 1, 0, none⟩ 1 1 [.int .i64 (byteOr 0 s (k0 + 2 * j)), .int .i64 (byteOr 0 s (k0 + 2 * j + 1))] rfl rfl ?c1 ?c2 ?c3 ?c4 ?c5 ?_))
      case c1 => simpa using two_new (wr.alloc _) _ _ _
      case c2 => intro u hu; simp at hu; rcases hu with rfl | rfl <;> rfl
      case c3 => unfold maxLen; omega
      case c4 => omega
      case c5 => simp; omega
      intro v' w1 hrow' hgrow _
      rw [← pairCells_snoc, ← HS.out] at hrow'
      have hb2 := ((((Below.refl (wo.heap.size + 1) wr).alloc hzi _).alloc (by simp; omega) _).grown hgrow (by simp; omega) (fun g hg => (hrow.lt g hg).1))
      have z0 := (hb2.cell (p := ⟨wo.heap.size, 0, none⟩) (by simp)).trans y0
      have z1 := (hb2.cell (p := ⟨wo.heap.size, 1, none⟩) (by simp)).trans y1
      have zf := (hb2.frozen (p := ⟨wo.heap.size, 1, none⟩) (by simp)).trans yf
      have hz2 := hb2.size
      have hb3 := hbin.trans (hb2.mono (by omega))
      obtain ⟨ao', cp', rfl⟩ := owns_slice hrow'
      clear hgrow hrow y0 y1 yf hb2 hbin
      go_wp2
      go_roundw
      case rel =>
        refine ⟨j + 1, _, by omega, by go_num, by go_num, .inr (by simp; omega), ?_, ?_, ?_, ownsRow_setCell_below hrow' (by simp) _, hb3.setCell (by simp) _, by simp; omega⟩
        · exact cell_unset (by simp) z0
        · exact cell_set z1
        · simp [zf]
      case measure => simp [intOf]; omega

end Go.Proofs.YtblhmeidbjigaabGreatDoor
