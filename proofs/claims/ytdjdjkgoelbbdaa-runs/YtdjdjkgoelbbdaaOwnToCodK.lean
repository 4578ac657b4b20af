/- Hints that lie in memory of their own, each list for itself. -/
import Derived.Test.YtdjdjkgoelbbdaaCodHToCodJ
set_option linter.unusedSimpArgs false
set_option linter.unusedVariables false
namespace Go.Proofs.Ytdjdjkgoelbbdaa
open Go.RowKit

section
variable {w w' : World} {base base' : Nat} {e : TypeId} {size : Nat} {v : Value} {n : Nat} {xs : List Value}

/-- What lies in a block that has not turned. -/
theorem owns_same (h : w.ownsRow base e size v n xs) (hb : ∀ g, v.ownBlock = some g → w'.heap[g]? = w.heap[g]?) : w'.ownsRow base e size v n xs := by
  refine ⟨h.1, ?_⟩
  rcases h.2 with h2 | ⟨g, cap, cur, rfl, hg, hh, r⟩
  · exact .inl h2
  · exact .inr ⟨g, cap, cur, rfl, hg, (hb g rfl).trans hh, r⟩

theorem owns_below {B : Nat} (h : w.ownsRow base e size v n xs) (hb : Below B w w') (hB : w.heap.size ≤ B) : w'.ownsRow base e size v n xs :=
  owns_same h fun g hg => hb.block g (Nat.lt_of_lt_of_le (h.lt g hg).2 hB)

/-- Rows of different types lie in different blocks. -/
theorem owns_apart {e' : TypeId} {size' : Nat} {v' : Value} {n' : Nat} {xs' : List Value} (h : w.ownsRow base e size v n xs) (h' : w.ownsRow base' e' size' v' n' xs') (he : e ≠ e') : ∀ g, v.ownBlock = some g → v'.ownBlock ≠ some g := by
  intro g hg hg'
  rcases h.2 with ⟨rfl, _⟩ | ⟨k, cap, cur, rfl, _, hh, _⟩
  · simp [Value.ownBlock] at hg
  rcases h'.2 with ⟨rfl, _⟩ | ⟨k', cap', cur', rfl, _, hh', _⟩
  · simp [Value.ownBlock] at hg'
  simp [Value.ownBlock] at hg hg'
  subst hg; subst hg'
  rw [hh] at hh'
  simp at hh'
  exact he hh'.2

theorem owns_cell (h : w.ownsRow base e size v n xs) {ao : Option Addr} {cap : Nat} (hv : v = .slice ao n cap) {i : Nat} (hi : i < xs.length) :
    ∃ b, ao = some ⟨b, 0, none⟩ ∧ base ≤ b ∧ v.ownBlock = some b ∧ w.cell? ⟨b, i, none⟩ = some xs[i] := by
  rcases h.2 with ⟨h1, h0⟩ | ⟨g, cap', cur, h1, hg, hh, r⟩
  · have := h.1
    simp [h0] at this
    simp [this] at hi
  · subst hv
    simp at h1
    obtain ⟨rfl, rfl⟩ := h1
    refine ⟨g, rfl, hg, rfl, ?_⟩
    have := h.cells (g := g) rfl i xs[i] (by simp)
    rwa [Addr.add_lit, Nat.zero_add] at this

theorem owns_le (h : w.ownsRow base e size v n xs) : n ≤ 9223372036854775807 := by
  rcases h.2 with ⟨h1, h0⟩ | ⟨g, cap', cur, h1, hg, hh, h2, h3, r⟩
  · omega
  · unfold maxLen at h3; omega
end

theorem pairCells_length (ps : List PairD) : (pairCells ps).length = ps.length * 2 := by
  induction ps with
  | nil => rfl
  | cons p r ih => simp only [pairCells, List.flatMap_cons, List.length_append, List.length_cons, List.length_nil] at *; omega

theorem pairCells_get (ps : List PairD) (i : Nat) (hi : i < ps.length) : (pairCells ps)[i * 2]? = some (.int .i64 (preg ps i)) ∧ (pairCells ps)[i * 2 + 1]? = some (.int .i64 (pplace ps i)) := by
  induction ps generalizing i with
  | nil => simp at hi
  | cons p r ih =>
    cases i with
    | zero => exact ⟨rfl, rfl⟩
    | succ i =>
      have h := ih i (by simpa using hi)
      have e1 : (i + 1) * 2 = i * 2 + 1 + 1 := by omega
      rw [e1]
      exact h

def pingCells (hv : List (PingD × Value)) : List Value := hv.flatMap fun x => [.int .i64 x.1.src, x.2]

theorem pingCells_snoc (hv : List (PingD × Value)) (x : PingD) (sv : Value) : pingCells (hv ++ [(x, sv)]) = pingCells hv ++ [.int .i64 x.src, sv] := by
  simp [pingCells]

theorem pingCells_length (hv : List (PingD × Value)) : (pingCells hv).length = hv.length * 2 := by
  induction hv with
  | nil => rfl
  | cons p r ih => simp only [pingCells, List.flatMap_cons, List.length_append, List.length_cons, List.length_nil] at *; omega

theorem pingCells_get (hv : List (PingD × Value)) (i : Nat) (hi : i < hv.length) : (pingCells hv)[i * 2]? = some (.int .i64 hv[i].1.src) ∧ (pingCells hv)[i * 2 + 1]? = some hv[i].2 := by
  induction hv generalizing i with
  | nil => simp at hi
  | cons p r ih =>
    cases i with
    | zero => exact ⟨rfl, rfl⟩
    | succ i =>
      have h := ih i (by simpa using hi)
      have e1 : (i + 1) * 2 = i * 2 + 1 + 1 := by omega
      rw [e1]
      exact h

/-- The hint hv lies at v, in memory from block base on, each list in a block of its own. -/
structure OwnHint (w : World) (base : Nat) (v : Value) (hv : List (PingD × Value)) : Prop where
  row : w.ownsRow base 82 2 v hv.length (pingCells hv)
  each : ∀ x ∈ hv, w.ownsRow base 84 2 x.2 x.1.pairs.length (pairCells x.1.pairs)
  apart : hv.Pairwise fun x y => ∀ g, x.2.ownBlock = some g → y.2.ownBlock ≠ some g

def hdat (hv : List (PingD × Value)) : List PingD := hv.map (·.1)

theorem ownHint_nil (w : World) (base : Nat) : OwnHint w base (.slice none 0 0) [] :=
  ⟨World.ownsRow_nil _ _ _ _, fun x hx => by simp at hx, List.Pairwise.nil⟩

theorem OwnHint.below {w w' : World} {base : Nat} {v : Value} {hv : List (PingD × Value)} (h : OwnHint w base v hv) {B : Nat} (hb : Below B w w') (hB : w.heap.size ≤ B) : OwnHint w' base v hv :=
  ⟨owns_below h.row hb hB, fun x hx => owns_below (h.each x hx) hb hB, h.apart⟩

theorem OwnHint.alloc {w : World} {base : Nat} {v : Value} {hv : List (PingD × Value)} (h : OwnHint w base v hv) (o : Obj) : OwnHint (w.alloc o) base v hv :=
  ⟨h.row.alloc o, fun x hx => (h.each x hx).alloc o, h.apart⟩

theorem OwnHint.set {w : World} {base : Nat} {v : Value} {hv : List (PingD × Value)} (h : OwnHint w base v hv) {a : Addr} (ha : a.block < base) (u : Value) : OwnHint (w.setCell a u) base v hv :=
  ⟨ownsRow_setCell_below h.row ha u, fun x hx => ownsRow_setCell_below (h.each x hx) ha u, h.apart⟩

theorem OwnHint.base {w : World} {base base' : Nat} {v : Value} {hv : List (PingD × Value)} (h : OwnHint w base v hv) (hb : base' ≤ base) : OwnHint w base' v hv :=
  ⟨owns_base h.row hb, fun x hx => owns_base (h.each x hx) hb, h.apart⟩

/-- One block more, behind an append. -/
theorem OwnHint.snoc {w w' : World} {base : Nat} {v v' : Value} {hv : List (PingD × Value)} (h : OwnHint w base v hv) {x : PingD} {sv : Value}
    (hx : w.ownsRow base 84 2 sv x.pairs.length (pairCells x.pairs)) (hfree : ∀ y ∈ hv, ∀ g, y.2.ownBlock = some g → sv.ownBlock ≠ some g)
    (hg : w.grownBy w' v.ownBlock) (hown : w'.ownsRow base 82 2 v' (hv.length + 1) (pingCells hv ++ [.int .i64 x.src, sv])) : OwnHint w' base v' (hv ++ [(x, sv)]) := by
  have keep : ∀ (u : Value) (ps : List PairD), w.ownsRow base 84 2 u ps.length (pairCells ps) → w'.ownsRow base 84 2 u ps.length (pairCells ps) := by
    intro u ps hu
    refine hu.kept hg ?_
    cases hb : u.ownBlock with
    | none => exact .inl rfl
    | some g => exact .inr (fun e => owns_apart hu h.row (by decide) g hb e.symm)
  refine ⟨by rw [pingCells_snoc]; simpa using hown, ?_, ?_⟩
  · intro y hy
    rcases List.mem_append.1 hy with hy | hy
    · exact keep _ _ (h.each y hy)
    · simp at hy; subst hy; exact keep _ _ hx
  · rw [List.pairwise_append]
    refine ⟨h.apart, by simp, ?_⟩
    intro a ha b hb
    simp at hb
    subst hb
    exact hfree a ha

theorem owns_rdPairs {w : World} {base : Nat} {v : Value} {ps : List PairD} (h : w.ownsRow base 84 2 v ps.length (pairCells ps)) : RdPairs w v ps := by
  obtain ⟨ao, cap, hv⟩ := owns_slice h
  refine ⟨ao, cap, hv, owns_le h, fun i hi => ?_⟩
  have hl := pairCells_length ps
  obtain ⟨b, hao, _, hb, hc⟩ := owns_cell h hv (i := i * 2) (by omega)
  obtain ⟨b', hao', _, hb', hc'⟩ := owns_cell h hv (i := i * 2 + 1) (by omega)
  have : b = b' := by rw [hb] at hb'; simpa using hb'
  subst this
  obtain ⟨g1, g2⟩ := pairCells_get ps i hi
  refine ⟨b, 0, hao, ?_, ?_⟩
  · rw [Nat.zero_add, hc]; rw [List.getElem?_eq_getElem (by omega)] at g1; exact g1
  · rw [Nat.zero_add, hc']; rw [List.getElem?_eq_getElem (by omega)] at g2; exact g2

theorem hdat_get (hv : List (PingD × Value)) {i : Nat} (hi : i < hv.length) : hsrc (hdat hv) i = hv[i].1.src ∧ hpairs (hdat hv) i = hv[i].1.pairs := by
  constructor <;> simp [hsrc, hpairs, hdat, hi]

theorem hdat_length (hv : List (PingD × Value)) : (hdat hv).length = hv.length := by simp [hdat]

theorem OwnHint.rd {w : World} {base : Nat} {v : Value} {hv : List (PingD × Value)} (h : OwnHint w base v hv) : RdHint w v (hdat hv) := by
  obtain ⟨ao, cap, hv'⟩ := owns_slice h.row
  refine ⟨ao, cap, by rw [hdat_length]; exact hv', by rw [hdat_length]; exact owns_le h.row, fun i hi => ?_⟩
  rw [hdat_length] at hi
  have hl := pingCells_length hv
  obtain ⟨b, hao, _, hb, hc⟩ := owns_cell h.row hv' (i := i * 2) (by omega)
  obtain ⟨b', hao', _, hb', hc'⟩ := owns_cell h.row hv' (i := i * 2 + 1) (by omega)
  have : b = b' := by rw [hb] at hb'; simpa using hb'
  subst this
  obtain ⟨g1, g2⟩ := pingCells_get hv i hi
  obtain ⟨e1, e2⟩ := hdat_get hv hi
  refine ⟨b, 0, hv[i].2, hao, ?_, ?_, ?_⟩
  · rw [Nat.zero_add, hc, e1]; rw [List.getElem?_eq_getElem (by omega)] at g1; exact g1
  · rw [Nat.zero_add, hc']; rw [List.getElem?_eq_getElem (by omega)] at g2; exact g2
  · rw [e2]; exact owns_rdPairs (h.each _ (by simp))

end Go.Proofs.Ytdjdjkgoelbbdaa

/- DecodeHint in the codec. -/
set_option linter.unusedSimpArgs false
set_option linter.unusedVariables false
namespace Go.Proofs.Ytdjdjkgoelbbdaa
open Go.RowKit

set_option maxHeartbeats 400000 in
theorem pairingSize_any (src : Int) (ao : Option Addr) (n cap : Nat) (w : World) (hn : n ≤ 1000) :
    Calls Try.prog 87 #[.agg #[.int .i64 src, .slice ao n cap]] w fun e w' => e = .returned (.int .i64 (2 + 2 * n)) ∧ Below w.heap.size w w' := by
  go_enter Try.func87, Try.ntmps87
  go_wp2
  go_ret
  exact ⟨by simp, (Below.refl _ _).alloc (Nat.le_refl _) _⟩

/-- The block that is read at a place. -/
def pingAt (d : Int) (s : ByteArray) (p : Int) : PingD := ⟨byteOr d s p, pairsAt d s (p + 2) (byteOr d s (p + 1)).toNat⟩

/-- Where the k-th block begins. -/
def atOf (s : ByteArray) : Nat → Int
  | 0 => 3
  | k + 1 => atOf s k + (2 + 2 * (byteOr (-1) s (atOf s k + 1)).toNat)

/-- The first k blocks that are read. -/
def pingsOf (s : ByteArray) : Nat → List PingD
  | 0 => []
  | k + 1 => pingsOf s k ++ [pingAt (-1) s (atOf s k)]

theorem atOf_bd (s : ByteArray) (k : Nat) : 3 ≤ atOf s k ∧ atOf s k ≤ 3 + 512 * k := by
  induction k with
  | zero => simp [atOf]
  | succ k ih =>
    have := byteOr_bd (-1) s (atOf s k + 1) (by omega)
    simp only [atOf]
    omega

def readsHint (s : ByteArray) : Bool :=
  decide (byteOr (-1) s 0 = 84) && decide (byteOr (-1) s 1 = 72) && decide (atOf s (byteOr (-1) s 2).toNat = s.size) && goodHint (pingsOf s (byteOr (-1) s 2).toNat)

set_option maxRecDepth 100000 in
set_option maxHeartbeats 2000000 in
theorem cDecodeHint_cps (s : ByteArray) (w : World) (hs : s.size ≤ maxLen) (Post : Ending → World → Prop)
    (hyes : ∀ v hv w', readsHint s = true → OwnHint w' w.heap.size v hv → hdat hv = pingsOf s (byteOr (-1) s 2).toNat → Below w.heap.size w w' → Post (.returned (.tuple #[.agg #[v], .int .i64 0])) w')
    (hno : ∀ w', readsHint s = false → Below w.heap.size w w' → Post (.returned (.tuple #[.agg #[.slice none 0 0], .int .i64 2])) w') :
    Calls Try.prog 58 #[.string s] w Post := by
  obtain ⟨i0, ii, iz0, iz1, iz2⟩ := info_parts Try.infoPing
  have hcb := byteOr_bd (-1) s 2 (by omega)
  have hsz := hs
  unfold maxLen at hsz
  by_cases h0 : byteOr (-1) s 0 = 84
  case neg =>
    have hRf : readsHint s = false := by simp [readsHint, h0]
    have hno' := fun w' => hno w' hRf
    clear hno hyes hRf
    have hb : (byteOr (-1) s 0 != 84) = true := by simp [h0]
    go_enter Try.func58, Try.ntmps58
    go_wp2_with (go_at_call 79; refine (byteAt_any _ _ _ hs).mono ?_; rintro e w' ⟨rfl, rfl⟩)
    exact bodyPost_ret (v := .tuple #[.agg #[.slice none 0 0], .int .i64 2]) (by simp [results, Try.results58, go_sem]) rfl (hno' _ ((Below.refl _ _).alloc (Nat.le_refl _) _))
  by_cases h1 : byteOr (-1) s 1 = 72
  case neg =>
    have hRf : readsHint s = false := by simp [readsHint, h1]
    have hno' := fun w' => hno w' hRf
    clear hno hyes hRf
    have hb : (byteOr (-1) s 1 != 72) = true := by simp [h1]
    go_enter Try.func58, Try.ntmps58
    go_wp2_with (go_at_call 79; refine (byteAt_any _ _ _ hs).mono ?_; rintro e w' ⟨rfl, rfl⟩)
    exact bodyPost_ret (v := .tuple #[.agg #[.slice none 0 0], .int .i64 2]) (by simp [results, Try.results58, go_sem]) rfl (hno' _ ((Below.refl _ _).alloc (Nat.le_refl _) _))
  have HR : Hid (readsHint s = (decide (atOf s (byteOr (-1) s 2).toNat = s.size) && goodHint (pingsOf s (byteOr (-1) s 2).toNat))) := by show _ = _; simp [readsHint, h0, h1]
  generalize hcn : byteOr (-1) s 2 = c at *
  have HY := Hid.out (p := ∀ v hv w', readsHint s = true → OwnHint w' w.heap.size v hv → hdat hv = pingsOf s c.toNat → Below w.heap.size w w' → Post (.returned (.tuple #[.agg #[v], .int .i64 0])) w') hyes
  go_enter Try.func58, Try.ntmps58
  go_wp2_with (go_at_call 79; refine (byteAt_any _ _ _ hs).mono ?_; rintro e w' ⟨rfl, rfl⟩)
  clear hcn h0 h1
  go_loopw [6, 7] (fun p i wr => ∃ (k : Nat) (v : Value) (hv : List (PingD × Value)), k ≤ c.toNat ∧ i = .int .i64 k ∧ p = .int .i64 (atOf s k) ∧ wr.cell? ⟨w.heap.size + 1, 0, none⟩ = some v ∧
      wr.frozen? ⟨w.heap.size + 1, 0, none⟩ = false ∧ OwnHint wr (w.heap.size + 2) v hv ∧ Hid (hdat hv = pingsOf s k) ∧ Hid (hv.length = k) ∧ Below (w.heap.size + 1) (w.alloc (.cells #[.slice none 0 0] 31)) wr ∧ w.heap.size + 2 ≤ wr.heap.size)
    (fun _ i _ => c.toNat - (intOf i).toNat)
  case atStart =>
    refine ⟨0, .slice none 0 0, [], Nat.zero_le _, rfl, rfl, by simp, by simp, ownHint_nil _ _, rfl, rfl, ?_, by simp⟩
    exact (Below.refl _ _).alloc (by simp) _
  case round =>
    obtain ⟨k, v, hv, hk, rfl, rfl, hx0, hxf, hown, hdt, hvl, hbel, hz⟩ := hrel
    obtain ⟨ao, cp, rfl⟩ := owns_slice hown.row
    have hzl : w.heap.size + 1 < wr.heap.size := by omega
    have hzm : w.heap.size < wr.heap.size := by omega
    have r0 : wr.cell? ⟨w.heap.size, 0, none⟩ = some (.slice none 0 0) := (hbel.cell (by simp)).trans (by simp)
    have rf0 : wr.frozen? ⟨w.heap.size, 0, none⟩ = false := (hbel.frozen (by simp)).trans (by simp)
    have hab := atOf_bd s k
    by_cases hlt : (k : Int) < c
    · go_wp2_with fail
      refine (pairingAt_any s _ _ hs (by omega) (by omega)).mono ?_
      rintro e w1 ⟨sv, rfl, hsv, hb1⟩
      have HX : Hid (pingsOf s (k + 1) = pingsOf s k ++ [⟨byteOr (-1) s (atOf s k), pairsAt (-1) s (atOf s k + 2) (byteOr (-1) s (atOf s k + 1)).toNat⟩]) := rfl
      have HA : Hid (atOf s (k + 1) = atOf s k + (2 + 2 * (byteOr (-1) s (atOf s k + 1)).toNat)) := rfl
      have hmb := byteOr_bd (-1) s (atOf s k + 1) (by omega)
      have hpl := pairsAt_length (-1) s (atOf s k + 2) (byteOr (-1) s (atOf s k + 1)).toNat
      have hm : (byteOr (-1) s (atOf s k + 1)).toNat ≤ 255 := by omega
      clear hmb
      generalize (byteOr (-1) s (atOf s k + 1)).toNat = m at *
      generalize byteOr (-1) s (atOf s k) = src at *
      generalize pairsAt (-1) s (atOf s k + 2) m = ps at *
      subst hpl
      obtain ⟨so, sc, rfl⟩ := owns_slice hsv
      have own1 := hown.below hb1 (Nat.le_refl _)
      have x0 := (hb1.cell (p := ⟨w.heap.size + 1, 0, none⟩) hzl).trans hx0
      have xf := (hb1.frozen (p := ⟨w.heap.size + 1, 0, none⟩) hzl).trans hxf
      have hz1 := hb1.size
      have hzl1 : w.heap.size + 1 < w1.heap.size := by omega
      go_wp2_with (at_builtin; refine wpList_append_own _ rfl _ _ 29 rfl (w.heap.size + 2) 82 i0 (.agg #[.int .i64 0, .slice none 0 0]) 2 32 Try.underlying29 ii iz0 iz1 iz2 rfl (by decide) _ _ _ rfl ((own1.row.alloc _).alloc _) ⟨w1.heap.size + 1, 0, none⟩ 1 1 [.int .i64 src, .slice so ps.length sc] rfl rfl ?c1 ?c2 ?c3 ?c4 ?c5 ?_)
      case c1 => simpa using two_new (w1.alloc _) _ _ _
      case c2 => intro u hu; simp at hu; rcases hu with rfl | rfl <;> rfl
      case c3 => have := hvl.out; unfold maxLen; omega
      case c4 => have := hvl.out; omega
      case c5 => simp; omega
      intro v' w2 hown' hgrow _
      have hne : ∀ g, w1.heap.size ≤ g → some g ≠ (Value.slice ao hv.length cp).ownBlock := fun g hg e => by have := (own1.row.lt _ e.symm).2; omega
      have own2 : OwnHint w2 (w.heap.size + 2) v' (hv ++ [(⟨src, ps⟩, .slice so ps.length sc)]) := by
        refine ((own1.alloc _).alloc _).snoc (x := ⟨src, ps⟩) ((owns_base hsv (by omega)).alloc _ |>.alloc _) ?_ hgrow hown'
        intro y hy g hg e
        have e1 := ((hown.each y hy).lt g hg).2
        have e2 := (hsv.lt g e).1
        omega
      have hb2 := ((((Below.refl (w.heap.size + 2) w1).alloc (by omega) _).alloc (by simp; omega) _).grown hgrow (by simp; omega) (fun g hg => (own1.row.lt g hg).1))
      have y0 := (hb2.cell (p := ⟨w.heap.size + 1, 0, none⟩) (by simp)).trans x0
      have yf := (hb2.frozen (p := ⟨w.heap.size + 1, 0, none⟩) (by simp)).trans xf
      have z0 : w2.cell? ⟨w1.heap.size, 0, none⟩ = some (.int .i64 src) := hgrow.cell (by simp) (hne _ (Nat.le_refl _))
      have z1 : w2.cell? ⟨w1.heap.size, 1, none⟩ = some (.slice so ps.length sc) := hgrow.cell (by simp) (hne _ (Nat.le_refl _))
      have hz2 := hb2.size
      have hzl2 : w.heap.size + 1 < w2.heap.size := by omega
      have hzn : w1.heap.size ≠ w.heap.size + 1 := by omega
      have hb3 := (hbel.trans (hb1.mono (by omega))).trans (hb2.mono (by omega))
      obtain ⟨ao', cp', hv'⟩ := owns_slice own2.row
      rw [List.length_append] at hv'
      simp only [List.length_cons, List.length_nil, Nat.zero_add] at hv'
      subst hv'
      have z0' : ∀ u, (w2.setCell ⟨w.heap.size + 1, 0, none⟩ u).cell? ⟨w1.heap.size, 0, none⟩ = some (.int .i64 src) := fun u => cell_unset (by simp) z0
      have z1' : ∀ u, (w2.setCell ⟨w.heap.size + 1, 0, none⟩ u).cell? ⟨w1.heap.size, 1, none⟩ = some (.slice so ps.length sc) := fun u => cell_unset (by simp) z1
      clear hgrow hown hown' own1 hsv hx0 hxf x0 xf r0 rf0 hb2 hbel hne
      go_wp2_with fail
      refine (pairingSize_any _ _ _ _ _ (by omega)).mono ?_
      rintro e w3 ⟨rfl, hb4⟩
      have own3 := (own2.set (a := ⟨w.heap.size + 1, 0, none⟩) (by simp) _).below hb4 (Nat.le_refl _)
      have hs3 := hb4.size
      have v0 := (hb4.cell (p := ⟨w.heap.size + 1, 0, none⟩) (by simp; omega)).trans (cell_set y0)
      have vf := (hb4.frozen (p := ⟨w.heap.size + 1, 0, none⟩) (by simp; omega)).trans (by simpa using yf)
      have hb5 := (hb3.setCell (p := ⟨w.heap.size + 1, 0, none⟩) (by simp) _).trans (hb4.mono (by simp; omega))
      simp at hs3
      clear hb4 own2 hb3 y0 yf z0 z1 z0' z1'
      go_wp2
      go_roundw
      case rel =>
        refine ⟨k + 1, _, _, by omega, by go_num, by rw [HA.out], v0, vf, own3, ?_, ?_, hb5, by omega⟩
        · show hdat _ = _
          rw [HX.out, ← hdt.out]; simp [hdat]
        · show List.length _ = _
          have := hvl.out
          simp; exact this
      case measure => simp [intOf]; omega
    · obtain rfl : k = c.toNat := by omega
      by_cases he : atOf s c.toNat = s.size
      case neg =>
        have hRf : readsHint s = false := by rw [HR.out]; simp [he]
        have hno' := fun w' => hno w' hRf
        clear hno hyes HY hRf HR
        have hb : (atOf s c.toNat != (s.size : Int)) = true := by simp [he]
        go_wp2
        refine bodyPost_ret (v := .tuple #[.agg #[.slice none 0 0], .int .i64 2]) (by simp [results, Try.results58, go_sem, r0]) rfl (hno' _ ?_)
        exact (Below.under hbel).setCell (by simp) _
      have hb : (atOf s c.toNat != (s.size : Int)) = false := by simp [he]
      cases hg : goodHint (pingsOf s c.toNat)
      · have hRf : readsHint s = false := by rw [HR.out]; simp [hg]
        have hno' := fun w' => hno w' hRf
        clear hno hyes HY hRf HR
        have hrd := hown.rd
        rw [hdt.out] at hrd
        go_wp2_with fail
        refine (wmHint_any _ _ _ hrd).mono ?_
        rintro e w1 ⟨rfl, hb1⟩
        have x0 := (hb1.cell (p := ⟨w.heap.size, 0, none⟩) hzm).trans r0
        have xf := (hb1.frozen (p := ⟨w.heap.size, 0, none⟩) hzm).trans rf0
        have hb2 := (Below.under hbel).trans (hb1.mono (by omega))
        clear r0 rf0 hx0 hxf hrd
        go_wp2
        refine bodyPost_ret (v := .tuple #[.agg #[.slice none 0 0], .int .i64 2]) (by simp [results, Try.results58, go_sem, x0]) rfl (hno' _ ?_)
        exact hb2.setCell (by simp) _
      · have hRf : readsHint s = true := by rw [HR.out]; simp [hg, he]
        have hrd := hown.rd
        rw [hdt.out] at hrd
        go_wp2_with fail
        refine (wmHint_any _ _ _ hrd).mono ?_
        rintro e w1 ⟨rfl, hb1⟩
        have x0 := (hb1.cell (p := ⟨w.heap.size, 0, none⟩) hzm).trans r0
        have xf := (hb1.frozen (p := ⟨w.heap.size, 0, none⟩) hzm).trans rf0
        have y0 := (hb1.cell (p := ⟨w.heap.size + 1, 0, none⟩) hzl).trans hx0
        have hb2 := (Below.under hbel).trans (hb1.mono (by omega))
        have own1 := (hown.below hb1 (Nat.le_refl _)).set (a := ⟨w.heap.size, 0, none⟩) (by simp) (.slice ao hv.length cp) |>.base (base' := w.heap.size) (by omega)
        have hfin := HY _ _ _ hRf own1 hdt.out (hb2.setCell (by simp) _)
        clear r0 rf0 hx0 hxf hrd hno hyes HY HR hown own1
        go_wp2
        exact bodyPost_ret (v := .tuple #[.agg #[.slice ao hv.length cp], .int .i64 0]) (by simp [results, Try.results58, go_sem, x0]) rfl hfin

end Go.Proofs.Ytdjdjkgoelbbdaa
