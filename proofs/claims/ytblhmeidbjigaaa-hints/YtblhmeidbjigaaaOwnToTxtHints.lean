/- Hints that lie in memory of their own, each list for itself. -/
import Derived.Test.YtblhmeidbjigaaaRows
import Derived.WalkKit
import Derived.WalkSpells
import Derived.WalkLawsBesides
import Derived.Laws.BytesArg
import Derived.Deep.QuietTactic
import Derived.BigQuiet
import Derived.Deep.RegionHeld3
import Derived.Test.YtblhmeidbjigaaaCodAToCodJHints

set_option linter.unusedSimpArgs false
set_option linter.unusedVariables false
namespace Go.Proofs.Ytblhmeidbjigaaa
open Go.RowKit

section
variable {w w' : World} {base base' : Nat} {e : TypeId} {size : Nat} {v : Value} {n : Nat} {xs : List Value}

/-- What lies in a block that has not turned. -/
theorem owns_same (h : w.ownsRow base e size v n xs) (hb : ∀ g, v.ownBlock = some g → w'.heap[g]? = w.heap[g]?) : w'.ownsRow base e size v n xs := by
  refine ⟨h.1, ?_⟩
  rcases h.2 with h2 | ⟨g, cap, cur, rfl, hg, hh, r⟩
  · exact .inl h2
  · exact .inr ⟨g, cap, cur, rfl, hg, (hb g rfl).trans hh, r⟩

theorem owns_below {B : Nat} (h : w.ownsRow base e size v n xs) (hb : Below B w w') (hB : w.heap.size ≤ B) : w'.ownsRow base e size v n xs :=
  owns_same h fun g hg => hb.block g (Nat.lt_of_lt_of_le (h.lt g hg).2 hB)

/-- Rows of different types lie in different blocks. -/
theorem owns_apart {e' : TypeId} {size' : Nat} {v' : Value} {n' : Nat} {xs' : List Value} (h : w.ownsRow base e size v n xs) (h' : w.ownsRow base' e' size' v' n' xs') (he : e ≠ e') : ∀ g, v.ownBlock = some g → v'.ownBlock ≠ some g := by
  intro g hg hg'
  rcases h.2 with ⟨rfl, _⟩ | ⟨k, cap, cur, rfl, _, hh, _⟩
  · simp [Value.ownBlock] at hg
  rcases h'.2 with ⟨rfl, _⟩ | ⟨k', cap', cur', rfl, _, hh', _⟩
  · simp [Value.ownBlock] at hg'
  simp [Value.ownBlock] at hg hg'
  subst hg; subst hg'
  rw [hh] at hh'
  simp at hh'
  exact he hh'.2

theorem owns_cell (h : w.ownsRow base e size v n xs) {ao : Option Addr} {cap : Nat} (hv : v = .slice ao n cap) {i : Nat} (hi : i < xs.length) :
    ∃ b, ao = some ⟨b, 0, none⟩ ∧ base ≤ b ∧ v.ownBlock = some b ∧ w.cell? ⟨b, i, none⟩ = some xs[i] := by
  rcases h.2 with ⟨h1, h0⟩ | ⟨g, cap', cur, h1, hg, hh, r⟩
  · have := h.1
    simp [h0] at this
    simp [this] at hi
  · subst hv
    simp at h1
    obtain ⟨rfl, rfl⟩ := h1
    refine ⟨g, rfl, hg, rfl, ?_⟩
    have := h.cells (g := g) rfl i xs[i] (by simp)
    rwa [Addr.add_lit, Nat.zero_add] at this

theorem owns_le (h : w.ownsRow base e size v n xs) : n ≤ 9223372036854775807 := by
  rcases h.2 with ⟨h1, h0⟩ | ⟨g, cap', cur, h1, hg, hh, h2, h3, r⟩
  · omega
  · unfold maxLen at h3; omega
end

theorem pairCells_length (ps : List PairD) : (pairCells ps).length = ps.length * 2 := by
  induction ps with
  | nil => rfl
  | cons p r ih => simp only [pairCells, List.flatMap_cons, List.length_append, List.length_cons, List.length_nil] at *; omega

theorem pairCells_get (ps : List PairD) (i : Nat) (hi : i < ps.length) : (pairCells ps)[i * 2]? = some (.int .i64 (preg ps i)) ∧ (pairCells ps)[i * 2 + 1]? = some (.int .i64 (pplace ps i)) := by
  induction ps generalizing i with
  | nil => simp at hi
  | cons p r ih =>
    cases i with
    | zero => exact ⟨rfl, rfl⟩
    | succ i =>
      have h := ih i (by simpa using hi)
      have e1 : (i + 1) * 2 = i * 2 + 1 + 1 := by omega
      rw [e1]
      exact h

def pingCells (hv : List (PingD × Value)) : List Value := hv.flatMap fun x => [.int .i64 x.1.src, x.2]

theorem pingCells_snoc (hv : List (PingD × Value)) (x : PingD) (sv : Value) : pingCells (hv ++ [(x, sv)]) = pingCells hv ++ [.int .i64 x.src, sv] := by
  simp [pingCells]

theorem pingCells_length (hv : List (PingD × Value)) : (pingCells hv).length = hv.length * 2 := by
  induction hv with
  | nil => rfl
  | cons p r ih => simp only [pingCells, List.flatMap_cons, List.length_append, List.length_cons, List.length_nil] at *; omega

theorem pingCells_get (hv : List (PingD × Value)) (i : Nat) (hi : i < hv.length) : (pingCells hv)[i * 2]? = some (.int .i64 hv[i].1.src) ∧ (pingCells hv)[i * 2 + 1]? = some hv[i].2 := by
  induction hv generalizing i with
  | nil => simp at hi
  | cons p r ih =>
    cases i with
    | zero => exact ⟨rfl, rfl⟩
    | succ i =>
      have h := ih i (by simpa using hi)
      have e1 : (i + 1) * 2 = i * 2 + 1 + 1 := by omega
      rw [e1]
      exact h

/-- The hint hv lies at v, in memory from block base on, each list in a block of its own. -/
structure OwnHint (w : World) (base : Nat) (v : Value) (hv : List (PingD × Value)) : Prop where
  row : w.ownsRow base 94 2 v hv.length (pingCells hv)
  each : ∀ x ∈ hv, w.ownsRow base 96 2 x.2 x.1.pairs.length (pairCells x.1.pairs)
  apart : hv.Pairwise fun x y => ∀ g, x.2.ownBlock = some g → y.2.ownBlock ≠ some g

def hdat (hv : List (PingD × Value)) : List PingD := hv.map (·.1)

theorem ownHint_nil (w : World) (base : Nat) : OwnHint w base (.slice none 0 0) [] :=
  ⟨World.ownsRow_nil _ _ _ _, fun x hx => by simp at hx, List.Pairwise.nil⟩

theorem OwnHint.below {w w' : World} {base : Nat} {v : Value} {hv : List (PingD × Value)} (h : OwnHint w base v hv) {B : Nat} (hb : Below B w w') (hB : w.heap.size ≤ B) : OwnHint w' base v hv :=
  ⟨owns_below h.row hb hB, fun x hx => owns_below (h.each x hx) hb hB, h.apart⟩

theorem OwnHint.alloc {w : World} {base : Nat} {v : Value} {hv : List (PingD × Value)} (h : OwnHint w base v hv) (o : Obj) : OwnHint (w.alloc o) base v hv :=
  ⟨h.row.alloc o, fun x hx => (h.each x hx).alloc o, h.apart⟩

theorem OwnHint.set {w : World} {base : Nat} {v : Value} {hv : List (PingD × Value)} (h : OwnHint w base v hv) {a : Addr} (ha : a.block < base) (u : Value) : OwnHint (w.setCell a u) base v hv :=
  ⟨ownsRow_setCell_below h.row ha u, fun x hx => ownsRow_setCell_below (h.each x hx) ha u, h.apart⟩

theorem OwnHint.base {w : World} {base base' : Nat} {v : Value} {hv : List (PingD × Value)} (h : OwnHint w base v hv) (hb : base' ≤ base) : OwnHint w base' v hv :=
  ⟨owns_base h.row hb, fun x hx => owns_base (h.each x hx) hb, h.apart⟩

/-- One block more, behind an append. -/
theorem OwnHint.snoc {w w' : World} {base : Nat} {v v' : Value} {hv : List (PingD × Value)} (h : OwnHint w base v hv) {x : PingD} {sv : Value}
    (hx : w.ownsRow base 96 2 sv x.pairs.length (pairCells x.pairs)) (hfree : ∀ y ∈ hv, ∀ g, y.2.ownBlock = some g → sv.ownBlock ≠ some g)
    (hg : w.grownBy w' v.ownBlock) (hown : w'.ownsRow base 94 2 v' (hv.length + 1) (pingCells hv ++ [.int .i64 x.src, sv])) : OwnHint w' base v' (hv ++ [(x, sv)]) := by
  have keep : ∀ (u : Value) (ps : List PairD), w.ownsRow base 96 2 u ps.length (pairCells ps) → w'.ownsRow base 96 2 u ps.length (pairCells ps) := by
    intro u ps hu
    refine hu.kept hg ?_
    cases hb : u.ownBlock with
    | none => exact .inl rfl
    | some g => exact .inr (fun e => owns_apart hu h.row (by decide) g hb e.symm)
  refine ⟨by rw [pingCells_snoc]; simpa using hown, ?_, ?_⟩
  · intro y hy
    rcases List.mem_append.1 hy with hy | hy
    · exact keep _ _ (h.each y hy)
    · simp at hy; subst hy; exact keep _ _ hx
  · rw [List.pairwise_append]
    refine ⟨h.apart, by simp, ?_⟩
    intro a ha b hb
    simp at hb
    subst hb
    exact hfree a ha

theorem owns_rdPairs {w : World} {base : Nat} {v : Value} {ps : List PairD} (h : w.ownsRow base 96 2 v ps.length (pairCells ps)) : RdPairs w v ps := by
  obtain ⟨ao, cap, hv⟩ := owns_slice h
  refine ⟨ao, cap, hv, owns_le h, fun i hi => ?_⟩
  have hl := pairCells_length ps
  obtain ⟨b, hao, _, hb, hc⟩ := owns_cell h hv (i := i * 2) (by omega)
  obtain ⟨b', hao', _, hb', hc'⟩ := owns_cell h hv (i := i * 2 + 1) (by omega)
  have : b = b' := by rw [hb] at hb'; simpa using hb'
  subst this
  obtain ⟨g1, g2⟩ := pairCells_get ps i hi
  refine ⟨b, 0, hao, ?_, ?_⟩
  · rw [Nat.zero_add, hc]; rw [List.getElem?_eq_getElem (by omega)] at g1; exact g1
  · rw [Nat.zero_add, hc']; rw [List.getElem?_eq_getElem (by omega)] at g2; exact g2

theorem hdat_get (hv : List (PingD × Value)) {i : Nat} (hi : i < hv.length) : hsrc (hdat hv) i = hv[i].1.src ∧ hpairs (hdat hv) i = hv[i].1.pairs := by
  constructor <;> simp [hsrc, hpairs, hdat, hi]

theorem hdat_length (hv : List (PingD × Value)) : (hdat hv).length = hv.length := by simp [hdat]

theorem OwnHint.rd {w : World} {base : Nat} {v : Value} {hv : List (PingD × Value)} (h : OwnHint w base v hv) : RdHint w v (hdat hv) := by
  obtain ⟨ao, cap, hv'⟩ := owns_slice h.row
  refine ⟨ao, cap, by rw [hdat_length]; exact hv', by rw [hdat_length]; exact owns_le h.row, fun i hi => ?_⟩
  rw [hdat_length] at hi
  have hl := pingCells_length hv
  obtain ⟨b, hao, _, hb, hc⟩ := owns_cell h.row hv' (i := i * 2) (by omega)
  obtain ⟨b', hao', _, hb', hc'⟩ := owns_cell h.row hv' (i := i * 2 + 1) (by omega)
  have : b = b' := by rw [hb] at hb'; simpa using hb'
  subst this
  obtain ⟨g1, g2⟩ := pingCells_get hv i hi
  obtain ⟨e1, e2⟩ := hdat_get hv hi
  refine ⟨b, 0, hv[i].2, hao, ?_, ?_, ?_⟩
  · rw [Nat.zero_add, hc, e1]; rw [List.getElem?_eq_getElem (by omega)] at g1; exact g1
  · rw [Nat.zero_add, hc']; rw [List.getElem?_eq_getElem (by omega)] at g2; exact g2
  · rw [e2]; exact owns_rdPairs (h.each _ (by simp))

end Go.Proofs.Ytblhmeidbjigaaa

/- DecodeHint in the codec. -/
set_option linter.unusedSimpArgs false
set_option linter.unusedVariables false
namespace Go.Proofs.Ytblhmeidbjigaaa
open Go.RowKit

set_option maxHeartbeats 400000 in
theorem pairingSize_any (src : Int) (ao : Option Addr) (n cap : Nat) (w : World) (hn : n ≤ 1000) :
    Calls Try.prog 77 #[.agg #[.int .i64 src, .slice ao n cap]] w fun e w' => e = .returned (.int .i64 (2 + 2 * n)) ∧ Below w.heap.size w w' := by
  go_enter Try.func77, Try.ntmps77
  go_wp2
  go_ret
  exact ⟨by simp, (Below.refl _ _).alloc (Nat.le_refl _) _⟩

/-- The block that is read at a place. -/
def pingAt (d : Int) (s : ByteArray) (p : Int) : PingD := ⟨byteOr d s p, pairsAt d s (p + 2) (byteOr d s (p + 1)).toNat⟩

/-- Where the k-th block begins. -/
def atOf (s : ByteArray) : Nat → Int
  | 0 => 3
  | k + 1 => atOf s k + (2 + 2 * (byteOr (-1) s (atOf s k + 1)).toNat)

/-- The first k blocks that are read. -/
def pingsOf (s : ByteArray) : Nat → List PingD
  | 0 => []
  | k + 1 => pingsOf s k ++ [pingAt (-1) s (atOf s k)]

theorem atOf_bd (s : ByteArray) (k : Nat) : 3 ≤ atOf s k ∧ atOf s k ≤ 3 + 512 * k := by
  induction k with
  | zero => simp [atOf]
  | succ k ih =>
    have := byteOr_bd (-1) s (atOf s k + 1) (by omega)
    simp only [atOf]
    omega

def readsHint (s : ByteArray) : Bool :=
  decide (byteOr (-1) s 0 = 84) && decide (byteOr (-1) s 1 = 72) && decide (atOf s (byteOr (-1) s 2).toNat = s.size) && goodHint (pingsOf s (byteOr (-1) s 2).toNat)

set_option maxRecDepth 100000 in
set_option maxHeartbeats 2000000 in
theorem cDecodeHint_cps (s : ByteArray) (w : World) (hs : s.size ≤ maxLen) (Post : Ending → World → Prop)
    (hyes : ∀ v hv w', readsHint s = true → OwnHint w' w.heap.size v hv → hdat hv = pingsOf s (byteOr (-1) s 2).toNat → Below w.heap.size w w' → Post (.returned (.tuple #[.agg #[v], .int .i64 0])) w')
    (hno : ∀ w', readsHint s = false → Below w.heap.size w w' → Post (.returned (.tuple #[.agg #[.slice none 0 0], .int .i64 2])) w') :
    Calls Try.prog 50 #[.string s] w Post := by
  obtain ⟨i0, ii, iz0, iz1, iz2⟩ := info_parts Try.infoPing
  have hcb := byteOr_bd (-1) s 2 (by omega)
  have hsz := hs
  unfold maxLen at hsz
  by_cases h0 : byteOr (-1) s 0 = 84
  case neg =>
    have hRf : readsHint s = false := by simp [readsHint, h0]
    have hno' := fun w' => hno w' hRf
    clear hno hyes hRf
    have hb : (byteOr (-1) s 0 != 84) = true := by simp [h0]
    go_enter Try.func50, Try.ntmps50
    go_wp2_with (go_at_call 69; refine (byteAt_any _ _ _ hs).mono ?_; rintro e w' ⟨rfl, rfl⟩)
    exact bodyPost_ret (v := .tuple #[.agg #[.slice none 0 0], .int .i64 2]) (by simp [results, Try.results50, go_sem]) rfl (hno' _ ((Below.refl _ _).alloc (Nat.le_refl _) _))
  by_cases h1 : byteOr (-1) s 1 = 72
  case neg =>
    have hRf : readsHint s = false := by simp [readsHint, h1]
    have hno' := fun w' => hno w' hRf
    clear hno hyes hRf
    have hb : (byteOr (-1) s 1 != 72) = true := by simp [h1]
    go_enter Try.func50, Try.ntmps50
    go_wp2_with (go_at_call 69; refine (byteAt_any _ _ _ hs).mono ?_; rintro e w' ⟨rfl, rfl⟩)
    exact bodyPost_ret (v := .tuple #[.agg #[.slice none 0 0], .int .i64 2]) (by simp [results, Try.results50, go_sem]) rfl (hno' _ ((Below.refl _ _).alloc (Nat.le_refl _) _))
  have HR : Hid (readsHint s = (decide (atOf s (byteOr (-1) s 2).toNat = s.size) && goodHint (pingsOf s (byteOr (-1) s 2).toNat))) := by show _ = _; simp [readsHint, h0, h1]
  generalize hcn : byteOr (-1) s 2 = c at *
  have HY := Hid.out (p := ∀ v hv w', readsHint s = true → OwnHint w' w.heap.size v hv → hdat hv = pingsOf s c.toNat → Below w.heap.size w w' → Post (.returned (.tuple #[.agg #[v], .int .i64 0])) w') hyes
  go_enter Try.func50, Try.ntmps50
  go_wp2_with (go_at_call 69; refine (byteAt_any _ _ _ hs).mono ?_; rintro e w' ⟨rfl, rfl⟩)
  clear hcn h0 h1
  go_loopw [6, 7] (fun p i wr => ∃ (k : Nat) (v : Value) (hv : List (PingD × Value)), k ≤ c.toNat ∧ i = .int .i64 k ∧ p = .int .i64 (atOf s k) ∧ wr.cell? ⟨w.heap.size + 1, 0, none⟩ = some v ∧
      wr.frozen? ⟨w.heap.size + 1, 0, none⟩ = false ∧ OwnHint wr (w.heap.size + 2) v hv ∧ Hid (hdat hv = pingsOf s k) ∧ Hid (hv.length = k) ∧ Below (w.heap.size + 1) (w.alloc (.cells #[.slice none 0 0] 31)) wr ∧ w.heap.size + 2 ≤ wr.heap.size)
    (fun _ i _ => c.toNat - (intOf i).toNat)
  case atStart =>
    refine ⟨0, .slice none 0 0, [], Nat.zero_le _, rfl, rfl, by simp, by simp, ownHint_nil _ _, rfl, rfl, ?_, by simp⟩
    exact (Below.refl _ _).alloc (by simp) _
  case round =>
    obtain ⟨k, v, hv, hk, rfl, rfl, hx0, hxf, hown, hdt, hvl, hbel, hz⟩ := hrel
    obtain ⟨ao, cp, rfl⟩ := owns_slice hown.row
    have hzl : w.heap.size + 1 < wr.heap.size := by omega
    have hzm : w.heap.size < wr.heap.size := by omega
    have r0 : wr.cell? ⟨w.heap.size, 0, none⟩ = some (.slice none 0 0) := (hbel.cell (by simp)).trans (by simp)
    have rf0 : wr.frozen? ⟨w.heap.size, 0, none⟩ = false := (hbel.frozen (by simp)).trans (by simp)
    have hab := atOf_bd s k
    by_cases hlt : (k : Int) < c
    · go_wp2_with fail
      refine (pairingAt_any s _ _ hs (by omega) (by omega)).mono ?_
      rintro e w1 ⟨sv, rfl, hsv, hb1⟩
      have HX : Hid (pingsOf s (k + 1) = pingsOf s k ++ [⟨byteOr (-1) s (atOf s k), pairsAt (-1) s (atOf s k + 2) (byteOr (-1) s (atOf s k + 1)).toNat⟩]) := rfl
      have HA : Hid (atOf s (k + 1) = atOf s k + (2 + 2 * (byteOr (-1) s (atOf s k + 1)).toNat)) := rfl
      have hmb := byteOr_bd (-1) s (atOf s k + 1) (by omega)
      have hpl := pairsAt_length (-1) s (atOf s k + 2) (byteOr (-1) s (atOf s k + 1)).toNat
      have hm : (byteOr (-1) s (atOf s k + 1)).toNat ≤ 255 := by omega
      clear hmb
      generalize (byteOr (-1) s (atOf s k + 1)).toNat = m at *
      generalize byteOr (-1) s (atOf s k) = src at *
      generalize pairsAt (-1) s (atOf s k + 2) m = ps at *
      subst hpl
      obtain ⟨so, sc, rfl⟩ := owns_slice hsv
      have own1 := hown.below hb1 (Nat.le_refl _)
      have x0 := (hb1.cell (p := ⟨w.heap.size + 1, 0, none⟩) hzl).trans hx0
      have xf := (hb1.frozen (p := ⟨w.heap.size + 1, 0, none⟩) hzl).trans hxf
      have hz1 := hb1.size
      have hzl1 : w.heap.size + 1 < w1.heap.size := by omega
      go_wp2_with (at_builtin; refine wpList_append_own _ rfl _ _ 29 rfl (w.heap.size + 2) 94 i0 (.agg #[.int .i64 0, .slice none 0 0]) 2 32 Try.underlying29 ii iz0 iz1 iz2 rfl (by decide) _ _ _ rfl ((own1.row.alloc _).alloc _) ⟨w1.heap.size + 1, 0, none⟩ 1 1 [.int .i64 src, .slice so ps.length sc] rfl rfl ?c1 ?c2 ?c3 ?c4 ?c5 ?_)
      case c1 => simpa using two_new (w1.alloc _) _ _ _
      case c2 => intro u hu; simp at hu; rcases hu with rfl | rfl <;> rfl
      case c3 => have := hvl.out; unfold maxLen; omega
      case c4 => have := hvl.out; omega
      case c5 => simp; omega
      intro v' w2 hown' hgrow _
      have hne : ∀ g, w1.heap.size ≤ g → some g ≠ (Value.slice ao hv.length cp).ownBlock := fun g hg e => by have := (own1.row.lt _ e.symm).2; omega
      have own2 : OwnHint w2 (w.heap.size + 2) v' (hv ++ [(⟨src, ps⟩, .slice so ps.length sc)]) := by
        refine ((own1.alloc _).alloc _).snoc (x := ⟨src, ps⟩) ((owns_base hsv (by omega)).alloc _ |>.alloc _) ?_ hgrow hown'
        intro y hy g hg e
        have e1 := ((hown.each y hy).lt g hg).2
        have e2 := (hsv.lt g e).1
        omega
      have hb2 := ((((Below.refl (w.heap.size + 2) w1).alloc (by omega) _).alloc (by simp; omega) _).grown hgrow (by simp; omega) (fun g hg => (own1.row.lt g hg).1))
      have y0 := (hb2.cell (p := ⟨w.heap.size + 1, 0, none⟩) (by simp)).trans x0
      have yf := (hb2.frozen (p := ⟨w.heap.size + 1, 0, none⟩) (by simp)).trans xf
      have z0 : w2.cell? ⟨w1.heap.size, 0, none⟩ = some (.int .i64 src) := hgrow.cell (by simp) (hne _ (Nat.le_refl _))
      have z1 : w2.cell? ⟨w1.heap.size, 1, none⟩ = some (.slice so ps.length sc) := hgrow.cell (by simp) (hne _ (Nat.le_refl _))
      have hz2 := hb2.size
      have hzl2 : w.heap.size + 1 < w2.heap.size := by omega
      have hzn : w1.heap.size ≠ w.heap.size + 1 := by omega
      have hb3 := (hbel.trans (hb1.mono (by omega))).trans (hb2.mono (by omega))
      obtain ⟨ao', cp', hv'⟩ := owns_slice own2.row
      rw [List.length_append] at hv'
      simp only [List.length_cons, List.length_nil, Nat.zero_add] at hv'
      subst hv'
      have z0' : ∀ u, (w2.setCell ⟨w.heap.size + 1, 0, none⟩ u).cell? ⟨w1.heap.size, 0, none⟩ = some (.int .i64 src) := fun u => cell_unset (by simp) z0
      have z1' : ∀ u, (w2.setCell ⟨w.heap.size + 1, 0, none⟩ u).cell? ⟨w1.heap.size, 1, none⟩ = some (.slice so ps.length sc) := fun u => cell_unset (by simp) z1
      clear hgrow hown hown' own1 hsv hx0 hxf x0 xf r0 rf0 hb2 hbel hne
      go_wp2_with fail
      refine (pairingSize_any _ _ _ _ _ (by omega)).mono ?_
      rintro e w3 ⟨rfl, hb4⟩
      have own3 := (own2.set (a := ⟨w.heap.size + 1, 0, none⟩) (by simp) _).below hb4 (Nat.le_refl _)
      have hs3 := hb4.size
      have v0 := (hb4.cell (p := ⟨w.heap.size + 1, 0, none⟩) (by simp; omega)).trans (cell_set y0)
      have vf := (hb4.frozen (p := ⟨w.heap.size + 1, 0, none⟩) (by simp; omega)).trans (by simpa using yf)
      have hb5 := (hb3.setCell (p := ⟨w.heap.size + 1, 0, none⟩) (by simp) _).trans (hb4.mono (by simp; omega))
      simp at hs3
      clear hb4 own2 hb3 y0 yf z0 z1 z0' z1'
      go_wp2
      go_roundw
      case rel =>
        refine ⟨k + 1, _, _, by omega, by go_num, by rw [HA.out], v0, vf, own3, ?_, ?_, hb5, by omega⟩
        · show hdat _ = _
          rw [HX.out, ← hdt.out]; simp [hdat]
        · show List.length _ = _
          have := hvl.out
          simp; exact this
      case measure => simp [intOf]; omega
    · obtain rfl : k = c.toNat := by omega
      by_cases he : atOf s c.toNat = s.size
      case neg =>
        have hRf : readsHint s = false := by rw [HR.out]; simp [he]
        have hno' := fun w' => hno w' hRf
        clear hno hyes HY hRf HR
        have hb : (atOf s c.toNat != (s.size : Int)) = true := by simp [he]
        go_wp2
        refine bodyPost_ret (v := .tuple #[.agg #[.slice none 0 0], .int .i64 2]) (by simp [results, Try.results50, go_sem, r0]) rfl (hno' _ ?_)
        exact (Below.under hbel).setCell (by simp) _
      have hb : (atOf s c.toNat != (s.size : Int)) = false := by simp [he]
      cases hg : goodHint (pingsOf s c.toNat)
      · have hRf : readsHint s = false := by rw [HR.out]; simp [hg]
        have hno' := fun w' => hno w' hRf
        clear hno hyes HY hRf HR
        have hrd := hown.rd
        rw [hdt.out] at hrd
        go_wp2_with fail
        refine (wmHint_any _ _ _ hrd).mono ?_
        rintro e w1 ⟨rfl, hb1⟩
        have x0 := (hb1.cell (p := ⟨w.heap.size, 0, none⟩) hzm).trans r0
        have xf := (hb1.frozen (p := ⟨w.heap.size, 0, none⟩) hzm).trans rf0
        have hb2 := (Below.under hbel).trans (hb1.mono (by omega))
        clear r0 rf0 hx0 hxf hrd
        go_wp2
        refine bodyPost_ret (v := .tuple #[.agg #[.slice none 0 0], .int .i64 2]) (by simp [results, Try.results50, go_sem, x0]) rfl (hno' _ ?_)
        exact hb2.setCell (by simp) _
      · have hRf : readsHint s = true := by rw [HR.out]; simp [hg, he]
        have hrd := hown.rd
        rw [hdt.out] at hrd
        go_wp2_with fail
        refine (wmHint_any _ _ _ hrd).mono ?_
        rintro e w1 ⟨rfl, hb1⟩
        have x0 := (hb1.cell (p := ⟨w.heap.size, 0, none⟩) hzm).trans r0
        have xf := (hb1.frozen (p := ⟨w.heap.size, 0, none⟩) hzm).trans rf0
        have y0 := (hb1.cell (p := ⟨w.heap.size + 1, 0, none⟩) hzl).trans hx0
        have hb2 := (Below.under hbel).trans (hb1.mono (by omega))
        have own1 := (hown.below hb1 (Nat.le_refl _)).set (a := ⟨w.heap.size, 0, none⟩) (by simp) (.slice ao hv.length cp) |>.base (base' := w.heap.size) (by omega)
        have hfin := HY _ _ _ hRf own1 hdt.out (hb2.setCell (by simp) _)
        clear r0 rf0 hx0 hxf hrd hno hyes HY HR hown own1
        go_wp2
        exact bodyPost_ret (v := .tuple #[.agg #[.slice ao hv.length cp], .int .i64 0]) (by simp [results, Try.results50, go_sem, x0]) rfl hfin

end Go.Proofs.Ytblhmeidbjigaaa

/- Reading a hint, in the document's answer. -/
set_option linter.unusedSimpArgs false
set_option linter.unusedVariables false
namespace Go.Proofs.Ytblhmeidbjigaaa
open Go.RowKit

/-- How many pairs are read from k on, m being asked for, of a text of n bytes. -/
def jst (n : Int) (k : Int) (m : Nat) : Nat := min m ((n - k + 1) / 2).toNat

/-- Where the i-th block begins. -/
def rAt (s : ByteArray) : Nat → Int
  | 0 => 3
  | i + 1 => rAt s i + 2 + 2 * jst s.size (rAt s i + 2) (byteOr 0 s (rAt s i + 1)).toNat

/-- The first blocks that are read. -/
def rPings (s : ByteArray) : Nat → List PingD
  | 0 => []
  | i + 1 => rPings s i ++ [⟨byteOr 0 s (rAt s i), pairsAt 0 s (rAt s i + 2) (jst s.size (rAt s i + 2) (byteOr 0 s (rAt s i + 1)).toNat)⟩]

theorem byteOr0_bd (s : ByteArray) (i : Int) : 0 ≤ byteOr 0 s i ∧ byteOr 0 s i ≤ 255 := by
  unfold byteOr
  split
  · have := (s[i.toNat]!).toNat_lt; omega
  · omega

theorem jst_le (n k : Int) (m : Nat) : jst n k m ≤ m := by unfold jst; omega

theorem jst_eq {n k : Int} {m j : Nat} (h1 : j ≤ m) (h2 : j = 0 ∨ k + 2 * ((j : Int) - 1) < n) (h3 : ¬ ((j : Int) < m ∧ k + 2 * (j : Int) < n)) : j = jst n k m := by
  unfold jst
  by_cases hm : (j : Int) < m
  · have : ¬ k + 2 * (j : Int) < n := fun h => h3 ⟨hm, h⟩
    rcases h2 with h2 | h2 <;> omega
  · rcases h2 with h2 | h2 <;> omega

theorem rAt_bd (s : ByteArray) (i : Nat) : 3 ≤ rAt s i ∧ rAt s i ≤ 3 + 512 * i := by
  induction i with
  | zero => simp [rAt]
  | succ k ih =>
    have h1 := byteOr0_bd s (rAt s k + 1)
    have h2 := jst_le s.size (rAt s k + 2) (byteOr 0 s (rAt s k + 1)).toNat
    simp only [rAt]
    omega

/-- What the reading stops at. -/
structure RStop (s : ByteArray) (i : Nat) : Prop where
  done : ∀ j, j < i → (j : Int) < byteOr 0 s 2 ∧ rAt s j < s.size
  stop : ¬ ((i : Int) < byteOr 0 s 2 ∧ rAt s i < s.size)

theorem toList_ne {a b : ByteArray} (h : a ≠ b) : (a.toList == b.toList) = false := by
  rw [beq_eq_false_iff_ne]
  intro e
  rw [ByteArray.toList_eq, ByteArray.toList_eq] at e
  exact h (ByteArray.ext (Array.toList_inj.1 e))

/-- What the outer append leaves. -/
theorem ref_step {w wo wr w2 : World} {ao : Option Addr} {cp sc : Nat} {so : Option Addr} {hv : List (PingD × Value)} {src : Int} {ps : List PairD} {v' : Value} {O1 O2 : Obj}
    (hown : OwnHint wo (w.heap.size + 2) (.slice ao hv.length cp) hv) (hbin : Below wo.heap.size wo wr) (hrow : wr.ownsRow (wo.heap.size + 1) 96 2 (.slice so ps.length sc) ps.length (pairCells ps))
    (hbel : Below (w.heap.size + 1) (w.alloc O1) wo) (hx0 : wo.cell? ⟨w.heap.size + 1, 0, none⟩ = some (.slice ao hv.length cp)) (hxf : wo.frozen? ⟨w.heap.size + 1, 0, none⟩ = false) (hz : w.heap.size + 2 ≤ wo.heap.size)
    (hown' : w2.ownsRow (w.heap.size + 2) 94 2 v' (hv.length + 1) (pingCells hv ++ [.int .i64 src, .slice so ps.length sc])) (hgrow : (wr.alloc O2).grownBy w2 (Value.slice ao hv.length cp).ownBlock) :
    OwnHint w2 (w.heap.size + 2) v' (hv ++ [(⟨src, ps⟩, .slice so ps.length sc)]) ∧ w2.cell? ⟨w.heap.size + 1, 0, none⟩ = some (.slice ao hv.length cp) ∧ w2.frozen? ⟨w.heap.size + 1, 0, none⟩ = false ∧
      Below (w.heap.size + 1) (w.alloc O1) w2 ∧ w.heap.size + 2 ≤ w2.heap.size := by
  have hzr := hbin.size
  have own1 := hown.below hbin (Nat.le_refl _)
  have hb2 := (((Below.refl (w.heap.size + 2) wr).alloc (by omega) O2).grown hgrow (by simp; omega) (fun g hg => (own1.row.lt g hg).1))
  have hz2 := hb2.size
  refine ⟨?_, ?_, ?_, ?_, by omega⟩
  · refine (own1.alloc _).snoc (x := ⟨src, ps⟩) ((owns_base hrow (by omega)).alloc _) ?_ hgrow hown'
    intro y hy g hg e
    have e1 := ((hown.each y hy).lt g hg).2
    have e2 := (hrow.lt g e).1
    omega
  · exact (hb2.cell (p := ⟨w.heap.size + 1, 0, none⟩) (by simp)).trans ((hbin.cell (p := ⟨w.heap.size + 1, 0, none⟩) (by simp; omega)).trans hx0)
  · exact (hb2.frozen (p := ⟨w.heap.size + 1, 0, none⟩) (by simp)).trans ((hbin.frozen (p := ⟨w.heap.size + 1, 0, none⟩) (by simp; omega)).trans hxf)
  · exact (hbel.trans (hbin.mono (by omega))).trans (hb2.mono (by omega))

set_option maxRecDepth 100000 in
set_option maxHeartbeats 4000000 in
theorem rDecodeHint_cps (s : ByteArray) (w : World) (hs : s.size ≤ maxLen) (Post : Ending → World → Prop)
    (hyes : ∀ v hv w' i, RStop s i → OwnHint w' w.heap.size v hv → hdat hv = rPings s i → goodHint (hdat hv) = true → str (hintText (hdat hv)) = s → Below w.heap.size w w' → Post (.returned (.tuple #[.agg #[v], .bool true])) w')
    (hno : ∀ w' i, RStop s i → (goodHint (rPings s i) = true → str (hintText (rPings s i)) ≠ s) → Below w.heap.size w w' → Post (.returned (.tuple #[.agg #[.slice none 0 0], .bool false])) w') :
    Calls Try.prog 40 #[.string s] w Post := by
  obtain ⟨i0, ii, iz0, iz1, iz2⟩ := info_parts Try.infoPing
  obtain ⟨j0, ji, jz0, jz1, jz2⟩ := info_parts Try.infoPair
  have hcb := byteOr0_bd s 2
  have hsz := hs
  unfold maxLen at hsz
  obtain ⟨n, hn⟩ := Int.eq_ofNat_of_zero_le hcb.1
  have HN : Hid (byteOr 0 s 2 = n) := hn
  go_enter Try.func40, Try.ntmps40
  go_wp2_with (go_at_call 63; refine (at_any _ _ _ hs).mono ?_; rintro e w' ⟨rfl, rfl⟩)
  have hn255 : n ≤ 255 := by omega
  clear hcb hn
  go_loopw [6, 7] (fun p i wr => ∃ (k : Nat) (v : Value) (hv : List (PingD × Value)), k ≤ n ∧ i = .int .i64 k ∧ p = .int .i64 (rAt s k) ∧ wr.cell? ⟨w.heap.size + 1, 0, none⟩ = some v ∧
      wr.frozen? ⟨w.heap.size + 1, 0, none⟩ = false ∧ OwnHint wr (w.heap.size + 2) v hv ∧ Hid (hdat hv = rPings s k) ∧ Hid (hv.length = k) ∧ Hid (∀ j, j < k → (j : Int) < byteOr 0 s 2 ∧ rAt s j < s.size) ∧ Below (w.heap.size + 1) (w.alloc (.cells #[.slice none 0 0] 31)) wr ∧ w.heap.size + 2 ≤ wr.heap.size)
    (fun _ i _ => n - (intOf i).toNat)
  case atStart =>
    refine ⟨0, .slice none 0 0, [], Nat.zero_le _, rfl, rfl, by simp, by simp, ownHint_nil _ _, rfl, rfl, fun j hj => by omega, ?_, by simp⟩
    exact (Below.refl _ _).alloc (by simp) _
  case round =>
    obtain ⟨k, v, hv, hk, rfl, rfl, hx0, hxf, hown, hdt, hvl, hdn, hbel, hz⟩ := hrel
    obtain ⟨ao, cp, rfl⟩ := owns_slice hown.row
    have hzl : w.heap.size + 1 < wr.heap.size := by omega
    have hzm : w.heap.size < wr.heap.size := by omega
    have hab := rAt_bd s k
    by_cases hlt : (k : Int) < n ∧ rAt s k < s.size
    case neg =>
      have hst : Hid (RStop s k) := ⟨hdn.out, by rw [HN.out]; exact hlt⟩
      have hltn : (k : Int) < n → ¬ (rAt s k < s.size) := fun h1 h2 => hlt ⟨h1, h2⟩
      clear hlt hdn
      have r0 : wr.cell? ⟨w.heap.size, 0, none⟩ = some (.slice none 0 0) := (hbel.cell (by simp)).trans (by simp)
      have rf0 : wr.frozen? ⟨w.heap.size, 0, none⟩ = false := (hbel.frozen (by simp)).trans (by simp)
      have hrd := hown.rd
      rw [hdt.out] at hrd
      by_cases hq : (k : Int) < n
      · have hq2 := hltn hq
        clear hltn
        go_wp2_with fail
        refine (rGoodHint_any _ _ _ hrd).mono ?_
        rintro e w1 ⟨rfl, hb1⟩
        have x0 := (hb1.cell (p := ⟨w.heap.size, 0, none⟩) hzm).trans r0
        have xf := (hb1.frozen (p := ⟨w.heap.size, 0, none⟩) hzm).trans rf0
        have y0 := (hb1.cell (p := ⟨w.heap.size + 1, 0, none⟩) hzl).trans hx0
        have hz1 := hb1.size
        have hzl1 : w.heap.size + 1 < w1.heap.size := by omega
        have hzm1 : w.heap.size < w1.heap.size := by omega
        have hb2 := (Below.under hbel).trans (hb1.mono (by omega))
        have own1 := hown.below hb1 (Nat.le_refl _)
        have hrd1 := hrd.keep hb1
        clear r0 rf0 hx0 hxf hbel hown hb1 hrd
        cases hg : goodHint (rPings s k)
        · have hno' := fun w' => hno w' k hst.out (by simp [hg])
          clear hno hyes
          go_wp2
          refine bodyPost_ret (v := .tuple #[.agg #[.slice none 0 0], .bool false]) (by simp [results, Try.results40, go_sem, x0]) rfl (hno' _ ?_)
          exact hb2.setCell (by simp) _
        go_wp2_with fail
        refine (rHintText_any _ _ _ hrd1 hg).mono ?_
        rintro e w2 ⟨rfl, hb3⟩
        have u0 := (hb3.cell (p := ⟨w.heap.size, 0, none⟩) hzm1).trans x0
        have uf := (hb3.frozen (p := ⟨w.heap.size, 0, none⟩) hzm1).trans xf
        have t0 := (hb3.cell (p := ⟨w.heap.size + 1, 0, none⟩) hzl1).trans y0
        have hb4 := hb2.trans (hb3.mono (by omega))
        have own2 := own1.below hb3 (Nat.le_refl _)
        clear x0 xf y0 hb2 own1 hrd1 hb3
        by_cases ht : str (hintText (rPings s k)) = s
        · have hfin := hyes _ _ _ k hst.out (own2.set (a := ⟨w.heap.size, 0, none⟩) (by simp) (.slice ao hv.length cp) |>.base (base' := w.heap.size) (by omega)) hdt.out (by rw [hdt.out]; exact hg) (by rw [hdt.out]; exact ht) (hb4.setCell (by simp) _)
          rw [ht]
          clear ht hg hno hyes own2 hb4
          go_wp2
          exact bodyPost_ret (v := .tuple #[.agg #[.slice ao hv.length cp], .bool true]) (by simp [results, Try.results40, go_sem, u0]) rfl hfin
        · have hno' := fun w' => hno w' k hst.out (fun _ => ht)
          have hbs := toList_ne ht
          generalize str (hintText (rPings s k)) = tt at *
          clear hno hyes ht hg
          go_wp2
          refine bodyPost_ret (v := .tuple #[.agg #[.slice none 0 0], .bool false]) (by simp [results, Try.results40, go_sem, u0]) rfl (hno' _ ?_)
          exact hb4.setCell (by simp) _
      · clear hltn
        go_wp2_with fail
        refine (rGoodHint_any _ _ _ hrd).mono ?_
        rintro e w1 ⟨rfl, hb1⟩
        have x0 := (hb1.cell (p := ⟨w.heap.size, 0, none⟩) hzm).trans r0
        have xf := (hb1.frozen (p := ⟨w.heap.size, 0, none⟩) hzm).trans rf0
        have y0 := (hb1.cell (p := ⟨w.heap.size + 1, 0, none⟩) hzl).trans hx0
        have hz1 := hb1.size
        have hzl1 : w.heap.size + 1 < w1.heap.size := by omega
        have hzm1 : w.heap.size < w1.heap.size := by omega
        have hb2 := (Below.under hbel).trans (hb1.mono (by omega))
        have own1 := hown.below hb1 (Nat.le_refl _)
        have hrd1 := hrd.keep hb1
        clear r0 rf0 hx0 hxf hbel hown hb1 hrd
        cases hg : goodHint (rPings s k)
        · have hno' := fun w' => hno w' k hst.out (by simp [hg])
          clear hno hyes
          go_wp2
          refine bodyPost_ret (v := .tuple #[.agg #[.slice none 0 0], .bool false]) (by simp [results, Try.results40, go_sem, x0]) rfl (hno' _ ?_)
          exact hb2.setCell (by simp) _
        go_wp2_with fail
        refine (rHintText_any _ _ _ hrd1 hg).mono ?_
        rintro e w2 ⟨rfl, hb3⟩
        have u0 := (hb3.cell (p := ⟨w.heap.size, 0, none⟩) hzm1).trans x0
        have uf := (hb3.frozen (p := ⟨w.heap.size, 0, none⟩) hzm1).trans xf
        have t0 := (hb3.cell (p := ⟨w.heap.size + 1, 0, none⟩) hzl1).trans y0
        have hb4 := hb2.trans (hb3.mono (by omega))
        have own2 := own1.below hb3 (Nat.le_refl _)
        clear x0 xf y0 hb2 own1 hrd1 hb3
        by_cases ht : str (hintText (rPings s k)) = s
        · have hfin := hyes _ _ _ k hst.out (own2.set (a := ⟨w.heap.size, 0, none⟩) (by simp) (.slice ao hv.length cp) |>.base (base' := w.heap.size) (by omega)) hdt.out (by rw [hdt.out]; exact hg) (by rw [hdt.out]; exact ht) (hb4.setCell (by simp) _)
          rw [ht]
          clear ht hg hno hyes own2 hb4
          go_wp2
          exact bodyPost_ret (v := .tuple #[.agg #[.slice ao hv.length cp], .bool true]) (by simp [results, Try.results40, go_sem, u0]) rfl hfin
        · have hno' := fun w' => hno w' k hst.out (fun _ => ht)
          have hbs := toList_ne ht
          generalize str (hintText (rPings s k)) = tt at *
          clear hno hyes ht hg
          go_wp2
          refine bodyPost_ret (v := .tuple #[.agg #[.slice none 0 0], .bool false]) (by simp [results, Try.results40, go_sem, u0]) rfl (hno' _ ?_)
          exact hb4.setCell (by simp) _
    obtain ⟨hlt1, hlt2⟩ := hlt
    obtain ⟨wo, hwo⟩ : ∃ wo, wo = wr := ⟨_, rfl⟩
    subst hwo
    have HX : Hid (rPings s (k + 1) = rPings s k ++ [⟨byteOr 0 s (rAt s k), pairsAt 0 s (rAt s k + 2) (jst s.size (rAt s k + 2) (byteOr 0 s (rAt s k + 1)).toNat)⟩]) := rfl
    have HA : Hid (rAt s (k + 1) = rAt s k + 2 + 2 * jst s.size (rAt s k + 2) (byteOr 0 s (rAt s k + 1)).toNat) := rfl
    have hmb := byteOr0_bd s (rAt s k + 1)
    obtain ⟨m, hm⟩ := Int.eq_ofNat_of_zero_le hmb.1
    go_wp2_with (go_at_call 63; refine (at_any _ _ _ hs).mono ?_; rintro e w' ⟨rfl, rfl⟩)
    rw [hm, Int.toNat_natCast] at HX HA
    have hm255 : m ≤ 255 := by omega
    clear hmb hm
    generalize byteOr 0 s (rAt s k) = src at *
    obtain ⟨k0, hk0⟩ : ∃ k0, k0 = rAt s k + 2 := ⟨_, rfl⟩
    rw [← hk0] at HX HA
    have hk0b : 5 ≤ k0 ∧ k0 ≤ 1000000 := by omega
    have HK0 : Hid (k0 = rAt s k + 2) := hk0
    clear hk0
    have hlt3 := hlt2
    go_loopw [6, 10] (fun p i w2 => ∃ (j : Nat) (sv : Value), j ≤ m ∧ i = .int .i64 j ∧ p = .int .i64 (k0 + 2 * j) ∧ Hid (j = 0 ∨ k0 + 2 * ((j : Int) - 1) < s.size) ∧ w2.cell? ⟨wo.heap.size, 0, none⟩ = some (.int .i64 src) ∧ w2.cell? ⟨wo.heap.size, 1, none⟩ = some sv ∧
        w2.frozen? ⟨wo.heap.size, 1, none⟩ = false ∧ w2.ownsRow (wo.heap.size + 1) 96 2 sv j (pairCells (pairsAt 0 s k0 j)) ∧ Below wo.heap.size wo w2 ∧ wo.heap.size + 1 ≤ w2.heap.size)
      (fun _ i _ => m - (intOf i).toNat)
    case atStart =>
      refine ⟨0, .slice none 0 0, Nat.zero_le _, rfl, by rw [HK0.out]; simp, .inl rfl, by simp, by simp, by simp, World.ownsRow_nil _ _ _ _, ?_, by simp⟩
      exact (Below.refl _ _).alloc (by simp) _
    case round =>
      obtain ⟨j, sv, hj, rfl, rfl, hjs, y0, y1, yf, hrow, hbin, hzi⟩ := hrel
      obtain ⟨so, sc, rfl⟩ := owns_slice hrow
      have hzw : wo.heap.size < wr.heap.size := by omega
      by_cases hjl : (j : Int) < m ∧ k0 + 2 * (j : Int) < s.size
      case neg =>
        have hje := jst_eq hj hjs.out hjl
        rw [← hje] at HX HA
        have hjn : (j : Int) < m → ¬ (k0 + 2 * (j : Int) < s.size) := fun h1 h2 => hjl ⟨h1, h2⟩
        clear hjl hje hjs
        have hdn' : Hid (∀ i, i < k + 1 → (i : Int) < byteOr 0 s 2 ∧ rAt s i < s.size) := by
          intro i hi
          by_cases e : i = k
          · subst e; rw [HN.out]; exact ⟨hlt1, hlt2⟩
          · exact hdn.out i (by omega)
        have hpl := pairsAt_length 0 s k0 j
        generalize pairsAt 0 s k0 j = ps at *
        subst hpl
        have own1 := hown.below hbin (Nat.le_refl _)
        have x0 := (hbin.cell (p := ⟨w.heap.size + 1, 0, none⟩) hzl).trans hx0
        have xf := (hbin.frozen (p := ⟨w.heap.size + 1, 0, none⟩) hzl).trans hxf
        have hzl1 : w.heap.size + 1 < wr.heap.size := by omega
        have hne : ∀ g, wr.heap.size ≤ g → some g ≠ (Value.slice ao hv.length cp).ownBlock := fun g hg e => by have := (own1.row.lt _ e.symm).2; omega
        by_cases hq : (ps.length : Int) < m
        · have hq2 := hjn hq
          clear hjn
          go_wp2_with (at_builtin; refine wpList_append_own _ rfl _ _ 29 rfl (w.heap.size + 2) 94 i0 (.agg #[.int .i64 0, .slice none 0 0]) 2 32 Try.underlying29 ii iz0 iz1 iz2 rfl (by decide) _ _ _ rfl (own1.row.alloc _) ⟨wr.heap.size, 0, none⟩ 1 1 [.int .i64 src, .slice so ps.length sc] rfl rfl (two_new wr _ _ _) ?d2 ?d3 ?d4 ?d5 ?_)
          case d2 => first | exact ⟨rfl, rfl⟩ | (intro u hu; simp at hu; rcases hu with rfl | rfl <;> rfl)
          case d3 => have := hvl.out; unfold maxLen; omega
          case d4 => have := hvl.out; omega
          case d5 => first | omega | (simp; omega)
          intro v' w2 hown' hgrow _
          obtain ⟨own2, y0', yf', hb3, hz3⟩ := ref_step hown hbin hrow hbel hx0 hxf hz hown' hgrow
          obtain ⟨ao', cp', hv'⟩ := owns_slice own2.row
          rw [List.length_append] at hv'
          simp only [List.length_cons, List.length_nil, Nat.zero_add] at hv'
          subst hv'
          have hzl2 : w.heap.size + 1 < w2.heap.size := by omega
          clear hgrow hown hown' own1 hx0 hxf x0 xf hbel hne hbin hrow y0 y1 yf
          go_wp2
          go_roundw
          case rel =>
            refine ⟨k + 1, _, _, by omega, by go_num, by rw [HA.out, HK0.out], cell_set y0', by simp [yf'], own2.set (by simp) _, ?_, ?_, hdn', hb3.setCell (by simp) _, by simp; omega⟩
            · show hdat _ = _
              rw [HX.out, ← hdt.out]; simp [hdat]
            · show List.length _ = _
              have := hvl.out
              simp; exact this
          case measure => simp [intOf]; omega
        · clear hjn
          go_wp2_with (at_builtin; refine wpList_append_own _ rfl _ _ 29 rfl (w.heap.size + 2) 94 i0 (.agg #[.int .i64 0, .slice none 0 0]) 2 32 Try.underlying29 ii iz0 iz1 iz2 rfl (by decide) _ _ _ rfl (own1.row.alloc _) ⟨wr.heap.size, 0, none⟩ 1 1 [.int .i64 src, .slice so ps.length sc] rfl rfl (two_new wr _ _ _) ?e2 ?e3 ?e4 ?e5 ?_)
          case e2 => first | exact ⟨rfl, rfl⟩ | (intro u hu; simp at hu; rcases hu with rfl | rfl <;> rfl)
          case e3 => have := hvl.out; unfold maxLen; omega
          case e4 => have := hvl.out; omega
          case e5 => first | omega | (simp; omega)
          intro v' w2 hown' hgrow _
          obtain ⟨own2, y0', yf', hb3, hz3⟩ := ref_step hown hbin hrow hbel hx0 hxf hz hown' hgrow
          obtain ⟨ao', cp', hv'⟩ := owns_slice own2.row
          rw [List.length_append] at hv'
          simp only [List.length_cons, List.length_nil, Nat.zero_add] at hv'
          subst hv'
          have hzl2 : w.heap.size + 1 < w2.heap.size := by omega
          clear hgrow hown hown' own1 hx0 hxf x0 xf hbel hne hbin hrow y0 y1 yf
          go_wp2
          go_roundw
          case rel =>
            refine ⟨k + 1, _, _, by omega, by go_num, by rw [HA.out, HK0.out], cell_set y0', by simp [yf'], own2.set (by simp) _, ?_, ?_, hdn', hb3.setCell (by simp) _, by simp; omega⟩
            · show hdat _ = _
              rw [HX.out, ← hdt.out]; simp [hdat]
            · show List.length _ = _
              have := hvl.out
              simp; exact this
          case measure => simp [intOf]; omega
      obtain ⟨hj1, hj2⟩ := hjl
      have HS : Hid (pairsAt 0 s k0 (j + 1) = pairsAt 0 s k0 j ++ [⟨byteOr 0 s (k0 + 2 * j), byteOr 0 s (k0 + 2 * j + 1)⟩]) := rfl
      go_wp2_with (first | (go_at_call 63; refine (at_any _ _ _ hs).mono ?_; rintro e w' ⟨rfl, rfl⟩) | (at_builtin; refine wpList_append_own _ rfl _ _ 92 rfl (wo.heap.size + 1) 96 j0 (.agg #[.int .i64 0, .int .i64 0]) 2 16 Try.underlying92 ji jz0 jz1 jz2 rfl (by decide) _ _ _ rfl ((hrow.alloc _).alloc _) ⟨wr.heap.size + 1, 0, none⟩ 1 1 [.int .i64 (byteOr 0 s (k0 + 2 * j)), .int .i64 (byteOr 0 s (k0 + 2 * j + 1))] rfl rfl ?c1 ?c2 ?c3 ?c4 ?c5 ?_))
      case c1 => simpa using two_new (wr.alloc _) _ _ _
      case c2 => intro u hu; simp at hu; rcases hu with rfl | rfl <;> rfl
      case c3 => unfold maxLen; omega
      case c4 => omega
      case c5 => simp; omega
      intro v' w1 hrow' hgrow _
      rw [← pairCells_snoc, ← HS.out] at hrow'
      have hb2 := ((((Below.refl (wo.heap.size + 1) wr).alloc hzi _).alloc (by simp; omega) _).grown hgrow (by simp; omega) (fun g hg => (hrow.lt g hg).1))
      have z0 := (hb2.cell (p := ⟨wo.heap.size, 0, none⟩) (by simp)).trans y0
      have z1 := (hb2.cell (p := ⟨wo.heap.size, 1, none⟩) (by simp)).trans y1
      have zf := (hb2.frozen (p := ⟨wo.heap.size, 1, none⟩) (by simp)).trans yf
      have hz2 := hb2.size
      have hb3 := hbin.trans (hb2.mono (by omega))
      obtain ⟨ao', cp', rfl⟩ := owns_slice hrow'
      clear hgrow hrow y0 y1 yf hb2 hbin
      go_wp2
      go_roundw
      case rel =>
        refine ⟨j + 1, _, by omega, by go_num, by go_num, .inr (by simp; omega), ?_, ?_, ?_, ownsRow_setCell_below hrow' (by simp) _, hb3.setCell (by simp) _, by simp; omega⟩
        · exact cell_unset (by simp) z0
        · exact cell_set z1
        · simp [zf]
      case measure => simp [intOf]; omega

end Go.Proofs.Ytblhmeidbjigaaa

/- Texts of hints: what is read is what was written. -/
set_option linter.unusedSimpArgs false
set_option linter.unusedVariables false
namespace Go.Proofs.Ytblhmeidbjigaaa
open Go.RowKit

theorem byt_toNat {n : Int} (h0 : 0 ≤ n) (h1 : n < 256) : ((byt n).toNat : Int) = n := by
  unfold byt
  rw [UInt8.toNat_ofNat']
  omega

theorem byt_of (b : UInt8) : byt (b.toNat : Int) = b := by
  unfold byt
  have := b.toNat_lt
  apply UInt8.toNat_inj.1
  rw [UInt8.toNat_ofNat']
  omega

theorem str_size (l : List UInt8) : (str l).size = l.length := by simp [str, ByteArray.size]

theorem byteOr_str {d : Int} {l : List UInt8} {i : Nat} {b : UInt8} (h : l[i]? = some b) : byteOr d (str l) i = b.toNat := by
  have hi : i < l.length := (List.getElem?_eq_some_iff.1 h).1
  have e : l[i] = b := (List.getElem?_eq_some_iff.1 h).2
  unfold byteOr
  rw [if_pos (by rw [str_size]; omega)]
  have : (str l)[(i : Int).toNat]! = b := by
    rw [Int.toNat_natCast, getElem!_pos _ _ (by rw [str_size]; exact hi), ← e]
    rfl
  rw [this]

theorem str_of (s : ByteArray) : s = str s.data.toList := by simp [str]

theorem pairsText_get (ps : List PairD) (i : Nat) (hi : i < ps.length) : (pairsText ps)[i * 2]? = some (byt (preg ps i)) ∧ (pairsText ps)[i * 2 + 1]? = some (byt (pplace ps i)) := by
  induction ps generalizing i with
  | nil => simp at hi
  | cons p r ih =>
    cases i with
    | zero => exact ⟨rfl, rfl⟩
    | succ i =>
      have h := ih i (by simpa using hi)
      have e1 : (i + 1) * 2 = i * 2 + 1 + 1 := by omega
      rw [e1]
      exact h

theorem get_mid {l a b c : List UInt8} {o i : Nat} {x : UInt8} (hl : l = a ++ b ++ c) (ho : a.length = o) (h : b[i]? = some x) : l[o + i]? = some x := by
  have hi : i < b.length := (List.getElem?_eq_some_iff.1 h).1
  subst hl; subst ho
  rw [List.append_assoc, List.getElem?_append_right (by omega), Nat.add_sub_cancel_left, List.getElem?_append_left hi, h]

def pairsOk (ps : List PairD) : Prop := ∀ i, i < ps.length → 0 ≤ preg ps i ∧ preg ps i < 256 ∧ 0 ≤ pplace ps i ∧ pplace ps i < 256

theorem goodPairs_ok : ∀ (ps : List PairD) (last : Int), goodPairs last ps = true → pairsOk ps
  | [], _, _ => fun i hi => by simp at hi
  | p :: r, last, h => by
    simp only [goodPairs, Bool.and_eq_true, below, decide_eq_true_eq] at h
    have ih := goodPairs_ok r _ h.2
    intro i hi
    cases i with
    | zero => show 0 ≤ p.reg ∧ p.reg < 256 ∧ 0 ≤ p.place ∧ p.place < 256; omega
    | succ i => exact ih i (by simpa using hi)

theorem pairsAt_text {d : Int} {l a c : List UInt8} {ps : List PairD} {o : Nat} (hl : l = a ++ pairsText ps ++ c) (ho : a.length = o) (hok : pairsOk ps) (k : Nat) (hk : k ≤ ps.length) : pairsAt d (str l) o k = ps.take k := by
  induction k with
  | zero => rfl
  | succ k ih =>
    have hk' : k < ps.length := by omega
    have hg := pairsText_get ps k hk'
    have ho' := hok k hk'
    have e1 : byteOr d (str l) ((o : Int) + 2 * k) = preg ps k := by
      rw [show (o : Int) + 2 * k = ((o + k * 2 : Nat) : Int) by omega, byteOr_str (get_mid hl ho hg.1), byt_toNat ho'.1 ho'.2.1]
    have e2 : byteOr d (str l) ((o : Int) + 2 * k + 1) = pplace ps k := by
      rw [show (o : Int) + 2 * k + 1 = ((o + (k * 2 + 1) : Nat) : Int) by omega, byteOr_str (get_mid hl ho hg.2), byt_toNat ho'.2.2.1 ho'.2.2.2]
    rw [pairsAt, ih (by omega), e1, e2, take_getD ps pz k hk']
    rfl

theorem hintText_split (h : List PingD) {k : Nat} (hk : k < h.length) :
    hintText h = ([84, 72, byt h.length] ++ (h.take k).flatMap pingText) ++ pingText (h.getD k hz) ++ (h.drop (k + 1)).flatMap pingText := by
  unfold hintText
  have e : h = h.take k ++ (h.getD k hz :: h.drop (k + 1)) := by rw [← drop_getD h hz k hk, List.take_append_drop]
  conv => lhs; arg 2; rw [e]
  simp [List.flatMap_append, List.flatMap_cons]

/-- Where the k-th block begins in the text of h. -/
def offOf (h : List PingD) (k : Nat) : Nat := 3 + ((h.take k).flatMap pingText).length

theorem offOf_succ {h : List PingD} {k : Nat} (hk : k < h.length) : offOf h (k + 1) = offOf h k + 2 + 2 * (hpairs h k).length := by
  unfold offOf
  rw [take_getD h hz k hk, List.flatMap_append]
  simp [pingText_length, hpairs]
  omega

theorem offOf_len (h : List PingD) : (hintText h).length = offOf h h.length := by
  simp [offOf, hintText]; omega

theorem offOf_mono {h : List PingD} {k : Nat} (hk : k < h.length) : offOf h (k + 1) ≤ (hintText h).length := by
  have := hintText_split h hk
  rw [this]
  rw [offOf_succ hk]
  simp [pingText_length, offOf, hpairs]
  omega

/-- What is read at the k-th block of a good hint's text. -/
theorem read_block {d : Int} {h : List PingD} (hg : goodHint h = true) {k : Nat} (hk : k < h.length) :
    byteOr d (str (hintText h)) (offOf h k) = hsrc h k ∧ byteOr d (str (hintText h)) ((offOf h k : Int) + 1) = (hpairs h k).length ∧ pairsAt d (str (hintText h)) ((offOf h k : Int) + 2) (hpairs h k).length = hpairs h k := by
  have hs := hintText_split h hk
  have hp := goodHint_ping hg (h.getD k hz) (getD_mem' hk)
  simp only [goodPing, Bool.and_eq_true, below, decide_eq_true_eq] at hp
  obtain ⟨⟨⟨hs1, hs2⟩, hl⟩, hgp⟩ := hp
  have ho : ([84, 72, byt h.length] ++ (h.take k).flatMap pingText).length = offOf h k := by simp [offOf]; omega
  refine ⟨?_, ?_, ?_⟩
  · have e := byteOr_str (d := d) (get_mid hs ho (i := 0) (x := byt (hsrc h k)) rfl)
    have g1 : 0 ≤ hsrc h k := hs1
    have g2 : hsrc h k < 256 := by show (h.getD k hz).src < 256; omega
    rw [byt_toNat g1 g2] at e
    exact e
  · have e := byteOr_str (d := d) (get_mid hs ho (i := 1) (x := byt (hpairs h k).length) rfl)
    rw [byt_toNat (by omega) (by show ((h.getD k hz).pairs.length : Int) < 256; omega)] at e
    rw [show (offOf h k : Int) + 1 = ((offOf h k + 1 : Nat) : Int) by omega]
    exact e
  · have hs' : hintText h = ([84, 72, byt h.length] ++ (h.take k).flatMap pingText ++ [byt (hsrc h k), byt (hpairs h k).length]) ++ pairsText (hpairs h k) ++ (h.drop (k + 1)).flatMap pingText := by
      rw [hs]; simp [pingText, hsrc, hpairs]
    rw [show (offOf h k : Int) + 2 = ((offOf h k + 2 : Nat) : Int) by omega]
    rw [pairsAt_text hs' (by rw [List.length_append, ho]; rfl) (goodPairs_ok _ _ hgp) _ (Nat.le_refl _), List.take_length]

theorem read_head {d : Int} {h : List PingD} (hg : goodHint h = true) : byteOr d (str (hintText h)) 0 = 84 ∧ byteOr d (str (hintText h)) 1 = 72 ∧ byteOr d (str (hintText h)) 2 = h.length := by
  have hl := goodHint_len hg
  refine ⟨?_, ?_, ?_⟩
  · exact byteOr_str (i := 0) (b := 84) rfl
  · exact byteOr_str (i := 1) (b := 72) rfl
  · have e := byteOr_str (d := d) (l := hintText h) (i := 2) (b := byt h.length) rfl
    rw [byt_toNat (by omega) (by omega)] at e
    exact e

theorem cod_reads {h : List PingD} (hg : goodHint h = true) (k : Nat) (hk : k ≤ h.length) : atOf (str (hintText h)) k = offOf h k ∧ pingsOf (str (hintText h)) k = h.take k := by
  induction k with
  | zero => exact ⟨rfl, rfl⟩
  | succ k ih =>
    obtain ⟨e1, e2⟩ := ih (by omega)
    obtain ⟨r1, r2, r3⟩ := read_block (d := -1) hg (show k < h.length by omega)
    constructor
    · rw [atOf, e1, r2, offOf_succ (by omega), Int.toNat_natCast]; omega
    · rw [pingsOf, e2, e1, take_getD h hz k (by omega)]
      congr 2
      simp only [pingAt, r1, r2, Int.toNat_natCast, r3]
      rfl

theorem ref_reads {h : List PingD} (hg : goodHint h = true) (k : Nat) (hk : k ≤ h.length) : rAt (str (hintText h)) k = offOf h k ∧ rPings (str (hintText h)) k = h.take k := by
  induction k with
  | zero => exact ⟨rfl, rfl⟩
  | succ k ih =>
    obtain ⟨e1, e2⟩ := ih (by omega)
    obtain ⟨r1, r2, r3⟩ := read_block (d := 0) hg (show k < h.length by omega)
    have hm := offOf_mono (show k < h.length by omega)
    have hsu := offOf_succ (show k < h.length by omega)
    have hj : jst (str (hintText h)).size ((offOf h k : Int) + 2) (hpairs h k).length = (hpairs h k).length := by
      unfold jst
      rw [str_size]
      omega
    constructor
    · rw [rAt, e1, r2, Int.toNat_natCast, hj, hsu]; omega
    · rw [rPings, e2, e1, r2, Int.toNat_natCast, hj, r1, r3, take_getD h hz k (by omega)]
      rfl

theorem ref_stops {h : List PingD} (hg : goodHint h = true) {i : Nat} (hi : RStop (str (hintText h)) i) : rPings (str (hintText h)) i = h := by
  obtain ⟨_, _, h2⟩ := read_head (d := 0) hg
  have : i = h.length := by
    rcases Nat.lt_trichotomy i h.length with hlt | heq | hgt
    · exfalso
      apply hi.stop
      rw [h2, (ref_reads hg i (by omega)).1, str_size]
      have := offOf_mono hlt
      have := offOf_succ hlt
      omega
    · exact heq
    · have := (hi.done h.length hgt).1
      rw [h2] at this
      omega
  subst this
  rw [(ref_reads hg _ (Nat.le_refl _)).2, List.take_length]

/-! ### Back: what was read, written again -/

theorem byteOr_in {d : Int} {s : ByteArray} {i : Nat} (hi : i < s.size) : byteOr d s i = (s.data.toList[i]'(by simpa using hi)).toNat := by
  have h : s.data.toList[i]? = some (s.data.toList[i]'(by simpa using hi)) := List.getElem?_eq_getElem _
  have := byteOr_str (d := d) h
  rwa [← str_of] at this

/-- A stretch of a text. -/
def seg (s : ByteArray) (i n : Nat) : List UInt8 := (s.data.toList.drop i).take n

theorem seg_two {s : ByteArray} {i : Nat} (h : i + 1 < s.size) : seg s i 2 = [byt (byteOr (-1) s i), byt (byteOr (-1) s ((i : Int) + 1))] := by
  have hl : s.data.toList.length = s.size := Array.length_toList
  rw [show (i : Int) + 1 = ((i + 1 : Nat) : Int) by omega, byteOr_in (show i < s.size by omega), byteOr_in h, byt_of, byt_of]
  unfold seg
  rw [List.drop_eq_getElem_cons (by omega), List.drop_eq_getElem_cons (by omega)]
  rfl

theorem seg_add (s : ByteArray) (i n m : Nat) : seg s i (n + m) = seg s i n ++ seg s (i + n) m := by
  unfold seg
  rw [List.take_add, List.drop_drop]

theorem pairs_seg {s : ByteArray} {o : Nat} (k : Nat) (h : o + 2 * k ≤ s.size) : pairsText (pairsAt (-1) s o k) = seg s o (2 * k) := by
  induction k with
  | zero => simp [pairsAt, pairsText, seg]
  | succ k ih =>
    rw [show 2 * (k + 1) = 2 * k + 2 by omega, seg_add, ← ih (by omega), seg_two (by omega)]
    simp only [pairsAt, pairsText, List.flatMap_append, List.flatMap_cons, List.flatMap_nil, List.append_nil]
    rw [show ((o + 2 * k : Nat) : Int) = (o : Int) + 2 * k by omega]

theorem pingsOf_length (s : ByteArray) (k : Nat) : (pingsOf s k).length = k := by
  induction k with
  | zero => rfl
  | succ k ih => simp [pingsOf, ih]

theorem atOf_mono (s : ByteArray) {i j : Nat} (h : i ≤ j) : atOf s i ≤ atOf s j := by
  induction j with
  | zero => obtain rfl : i = 0 := by omega
            exact Int.le_refl _
  | succ j ih =>
    by_cases e : i = j + 1
    · subst e; exact Int.le_refl _
    · have := ih (by omega)
      simp only [atOf]
      omega

theorem pings_seg {s : ByteArray} (k : Nat) (h : atOf s k ≤ s.size) : (pingsOf s k).flatMap pingText = seg s 3 (atOf s k - 3).toNat := by
  induction k with
  | zero => simp [pingsOf, atOf, seg]
  | succ k ih =>
    have hb := atOf_bd s k
    have hm := atOf_mono s (show k ≤ k + 1 by omega)
    obtain ⟨a, ha⟩ := Int.eq_ofNat_of_zero_le (show 0 ≤ atOf s k by omega)
    have hstep : atOf s (k + 1) = atOf s k + (2 + 2 * (byteOr (-1) s (atOf s k + 1)).toNat) := rfl
    generalize hm' : (byteOr (-1) s (atOf s k + 1)).toNat = m at hstep
    have hcnt : byteOr (-1) s (atOf s k + 1) = m := by
      rw [ha, show (a : Int) + 1 = ((a + 1 : Nat) : Int) by omega, byteOr_in (by omega)] at hm' ⊢
      omega
    have e3 : (atOf s (k + 1) - 3).toNat = (atOf s k - 3).toNat + (2 + 2 * m) := by omega
    rw [pingsOf, List.flatMap_append, ih (by omega), e3, seg_add, seg_add]
    have ea : 3 + (atOf s k - 3).toNat = a := by omega
    rw [ea]
    congr 1
    simp only [List.flatMap_cons, List.flatMap_nil, List.append_nil, pingText, pingAt, pairsAt_length]
    rw [hcnt, Int.toNat_natCast, ha, seg_two (by omega)]
    congr 1
    · rw [← ha, hcnt]
    · rw [show (a : Int) + 2 = ((a + 2 : Nat) : Int) by omega]
      exact pairs_seg m (by omega)

theorem cod_text {s : ByteArray} (h : readsHint s = true) : str (hintText (pingsOf s (byteOr (-1) s 2).toNat)) = s := by
  simp only [readsHint, Bool.and_eq_true, decide_eq_true_eq] at h
  obtain ⟨⟨⟨h0, h1⟩, h2⟩, h3⟩ := h
  have hb := atOf_bd s (byteOr (-1) s 2).toNat
  have hl : s.data.toList.length = s.size := Array.length_toList
  have hc : ((byteOr (-1) s 2).toNat : Int) = byteOr (-1) s 2 := by
    have e : byteOr (-1) s ((2 : Nat) : Int) = _ := byteOr_in (d := -1) (show 2 < s.size by omega)
    have e' : byteOr (-1) s 2 = _ := e
    rw [e']
    omega
  have hs := pings_seg (s := s) (byteOr (-1) s 2).toNat (by omega)
  unfold hintText
  rw [hs, pingsOf_length, hc]
  have e2 := seg_two (s := s) (i := 0) (by omega)
  have e3 : seg s 2 1 = [byt (byteOr (-1) s 2)] := by
    have e : byteOr (-1) s ((2 : Nat) : Int) = _ := byteOr_in (d := -1) (show 2 < s.size by omega)
    have e' : byteOr (-1) s 2 = _ := e
    rw [e', byt_of]
    unfold seg
    rw [List.drop_eq_getElem_cons (by omega)]
    rfl
  have z0 : byteOr (-1) s ((0 : Nat) : Int) = 84 := h0
  have z1 : byteOr (-1) s (((0 : Nat) : Int) + 1) = 72 := h1
  rw [z0, z1] at e2
  have f0 : seg s 0 s.size = s.data.toList := by unfold seg; rw [List.drop_zero, ← hl, List.take_length]
  have f1 : s.size = 2 + (1 + (atOf s (byteOr (-1) s 2).toNat - 3).toNat) := by omega
  rw [f1, seg_add, seg_add, e2, e3] at f0
  have f2 : [84, 72, byt (byteOr (-1) s 2)] ++ seg s 3 (atOf s (byteOr (-1) s 2).toNat - 3).toNat = s.data.toList := by
    rw [← f0]; rfl
  rw [f2, ← str_of]

/-! ### The two contracts, in the document's words -/

theorem cDecodeHint_any (s : ByteArray) (w : World) (hs : s.size ≤ maxLen) :
    Calls Try.prog 50 #[.string s] w fun e w' => ((∃ v hv, e = .returned (.tuple #[.agg #[v], .int .i64 0]) ∧ OwnHint w' w.heap.size v hv ∧ goodHint (hdat hv) = true ∧ str (hintText (hdat hv)) = s) ∨
      ((∀ h, goodHint h = true → str (hintText h) ≠ s) ∧ e = .returned (.tuple #[.agg #[.slice none 0 0], .int .i64 2]))) ∧ Below w.heap.size w w' := by
  refine cDecodeHint_cps s w hs _ ?_ ?_
  · intro v hv w' hr ho hd hb
    refine ⟨.inl ⟨v, hv, rfl, ho, ?_, ?_⟩, hb⟩
    · rw [hd]; simp only [readsHint, Bool.and_eq_true] at hr; exact hr.2
    · rw [hd]; exact cod_text hr
  · intro w' hr hb
    refine ⟨.inr ⟨?_, rfl⟩, hb⟩
    intro h hg he
    subst he
    obtain ⟨r0, r1, r2⟩ := read_head (d := -1) hg
    have := cod_reads hg h.length (Nat.le_refl _)
    simp only [readsHint, r0, r1, r2, Int.toNat_natCast, this.1, this.2, List.take_length, hg, str_size, offOf_len] at hr
    simp at hr

theorem rDecodeHint_any (s : ByteArray) (w : World) (hs : s.size ≤ maxLen) :
    Calls Try.prog 40 #[.string s] w fun e w' => ((∃ v hv, e = .returned (.tuple #[.agg #[v], .bool true]) ∧ OwnHint w' w.heap.size v hv ∧ goodHint (hdat hv) = true ∧ str (hintText (hdat hv)) = s) ∨
      ((∀ h, goodHint h = true → str (hintText h) ≠ s) ∧ e = .returned (.tuple #[.agg #[.slice none 0 0], .bool false]))) ∧ Below w.heap.size w w' := by
  refine rDecodeHint_cps s w hs _ ?_ ?_
  · intro v hv w' i _ ho hd hg ht hb
    exact ⟨.inl ⟨v, hv, rfl, ho, hg, ht⟩, hb⟩
  · intro w' i hst hr hb
    refine ⟨.inr ⟨?_, rfl⟩, hb⟩
    intro h hg he
    subst he
    have := ref_stops hg hst
    rw [this] at hr
    exact hr hg rfl

/-- A text is the text of one hint at most. -/
theorem hint_one {h g : List PingD} (hh : goodHint h = true) (hg : goodHint g = true) (e : str (hintText h) = str (hintText g)) : h = g := by
  have a := read_head (d := -1) hh
  have b := read_head (d := -1) hg
  have c := cod_reads hh h.length (Nat.le_refl _)
  have d := cod_reads hg g.length (Nat.le_refl _)
  have hl : h.length = g.length := by have := a.2.2; rw [e, b.2.2] at this; omega
  have x := c.2
  rw [e, hl, d.2, List.take_length, ← hl, List.take_length] at x
  exact x.symm

end Go.Proofs.Ytblhmeidbjigaaa
