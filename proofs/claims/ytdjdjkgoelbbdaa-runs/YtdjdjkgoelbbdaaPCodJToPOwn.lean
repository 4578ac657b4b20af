/- The text of a program in the codec. -/
import Derived.Test.YtdjdjkgoelbbdaaPCodEToPCodI
import Derived.Test.YtdjdjkgoelbbdaaLawNToPDat
import Derived.Test.YtdjdjkgoelbbdaaAppToSto
set_option linter.unusedSimpArgs false
set_option linter.unusedVariables false
namespace Go.Proofs.Ytdjdjkgoelbbdaa
open Go.RowKit

set_option maxRecDepth 100000 in
set_option maxHeartbeats 2000000 in
theorem cBlockText_any (sv : Value) (l : List OpD) (k r x y : Int) (w : World) (hr : RdOps w sv l) (hn : l.length ≤ 12) :
    Calls Try.prog 85 #[.agg #[sv, .int .i64 k, .int .i64 r, .int .i64 x, .int .i64 y]] w fun e w' => e = .returned (.string (str (blockText ⟨l, ⟨k, r, x, y⟩⟩))) ∧ Below w.heap.size w w' := by
  obtain ⟨ao, cap, rfl, hl, hc⟩ := hr
  obtain ⟨G, hG⟩ : ∃ G, str (blockText ⟨l, ⟨k, r, x, y⟩⟩) = G := ⟨_, rfl⟩
  rw [hG]
  have HG : Hid (str (blockText ⟨l, ⟨k, r, x, y⟩⟩) = G) := hG
  clear hG
  go_enter Try.func85, Try.ntmps85
  go_wp2_with fail
  refine (oneByte_any _ _).mono ?_
  rintro e w1 ⟨rfl, hb1⟩
  have h0 : (⟨#[byt l.length]⟩ : ByteArray) = blockTo l 0 := rfl
  rw [h0]
  have hb1' : Below (w.heap.size + 1) (w.alloc (.cells #[.slice ao l.length cap, .int .i64 k, .int .i64 r, .int .i64 x, .int .i64 y] 76)) w1 := by simpa using hb1
  clear hb1 h0
  go_wp2
  go_loopw [3, 4] (fun s i wr => ∃ (j : Nat), j ≤ l.length ∧ i = .int .i64 j ∧ s = .string (blockTo l j) ∧ Below (w.heap.size + 1) (w.alloc (.cells #[.slice ao l.length cap, .int .i64 k, .int .i64 r, .int .i64 x, .int .i64 y] 76)) wr)
    (fun _ i _ => l.length - (intOf i).toNat)
  case atStart => exact ⟨0, Nat.zero_le _, rfl, rfl, hb1'⟩
  case round =>
    obtain ⟨j, hj, rfl, rfl, hbel⟩ := hrel
    clear hb1' w1
    have hb0 := Below.under hbel
    have q0 : wr.cell? ⟨w.heap.size, 0, none⟩ = some (.slice ao l.length cap) := (hbel.cell (by simp)).trans (by simp)
    have q1 : wr.cell? ⟨w.heap.size, 1, none⟩ = some (.int .i64 k) := (hbel.cell (by simp)).trans (by simp)
    have q2 : wr.cell? ⟨w.heap.size, 2, none⟩ = some (.int .i64 r) := (hbel.cell (by simp)).trans (by simp)
    have q3 : wr.cell? ⟨w.heap.size, 3, none⟩ = some (.int .i64 x) := (hbel.cell (by simp)).trans (by simp)
    have q4 : wr.cell? ⟨w.heap.size, 4, none⟩ = some (.int .i64 y) := (hbel.cell (by simp)).trans (by simp)
    have hz := hbel.size
    simp at hz
    have hsz : (blockTo l j).size ≤ 100 := by rw [blockTo_size _ _ hj]; omega
    by_cases hlt : j < l.length
    · obtain ⟨b, off, rfl, c1, c2, c3, c4⟩ := hc j hlt
      have e1 := cell_keep hb0 c1
      have e2 := cell_keep hb0 c2
      have e3 := cell_keep hb0 c3
      have e4 := cell_keep hb0 c4
      have HS : Hid (blockTo l (j + 1) = blockTo l j ++ ⟨#[byt (okind l j), byt (oa l j), byt (ob l j), byt (oc l j)]⟩) := blockTo_step hlt
      go_wp2_with fail
      refine (fourBytes_any _ _ _ _ _).mono ?_
      rintro e w2 ⟨rfl, hb2⟩
      have hb3 := (hbel.alloc (by omega) (.cells #[.int .i64 (okind l j), .int .i64 (oa l j), .int .i64 (ob l j), .int .i64 (oc l j)] 78)).trans (hb2.mono (by simp; omega))
      clear hb2 q0 q1 q2 q3 q4 e1 e2 e3 e4
      go_wp2
      go_roundw
      case rel => exact ⟨j + 1, by omega, by go_num, by rw [HS.out], hb3⟩
      case measure => simp [intOf]; omega
    · have HE : Hid (blockTo l j ++ ⟨#[byt k, byt r, byt x, byt y]⟩ = G) := (blockTo_end ⟨k, r, x, y⟩ (by omega)).trans HG.out
      go_wp2_with fail
      refine (fourBytes_any _ _ _ _ _).mono ?_
      rintro e w2 ⟨rfl, hb2⟩
      have hb3 := hb0.trans (hb2.mono (by omega))
      have he := HE.out
      clear q0 q1 q2 q3 q4
      go_wp2
      go_ret
      exact ⟨by simp [he], hb3⟩

set_option maxRecDepth 100000 in
set_option maxHeartbeats 2000000 in
theorem cEncode_any (args regs data slots : Int) (v : Value) (l : List BlockD) (w : World) (hr : RdBlocks w v l) :
    Calls Try.prog 57 #[.agg #[.int .i64 args, .int .i64 regs, .int .i64 data, .int .i64 slots, v]] w fun e w' => e = .returned (.tuple (if progGood ⟨args, regs, data, slots, l⟩ then #[.string (str (progText ⟨args, regs, data, slots, l⟩)), .int .i64 0] else #[.string ⟨#[]⟩, .int .i64 1])) ∧ Below w.heap.size w w' := by
  have hr0 := hr
  obtain ⟨ao, cap, rfl, hl, hc⟩ := hr
  have hw := wmProg_any args regs data slots _ l _ (hr0.keep ((Below.refl w.heap.size w).alloc (Nat.le_refl _) (.cells #[.int .i64 args, .int .i64 regs, .int .i64 data, .int .i64 slots, .slice ao l.length cap] 24)))
  cases hg : progGood ⟨args, regs, data, slots, l⟩
  · go_enter Try.func57, Try.ntmps57
    go_wp2_with fail
    refine hw.mono ?_
    clear hw
    rintro e w1 ⟨rfl, hb1⟩
    rw [hg]
    go_wp2
    go_ret2
    exact ⟨by simp [hg], ((Below.refl _ _).alloc (Nat.le_refl _) _).trans (hb1.mono (by simp))⟩
  · obtain ⟨p, hp⟩ : ∃ p : ProgD, p = ⟨args, regs, data, slots, l⟩ := ⟨_, rfl⟩
    have hgp : progGood p = true := by rw [hp]; exact hg
    obtain ⟨G, hG⟩ : ∃ G, str (progText ⟨args, regs, data, slots, l⟩) = G := ⟨_, rfl⟩
    rw [hG]
    rw [← hp] at hG
    have hpl : p.blocks = l := by rw [hp]
    have HG : Hid (str (progText p) = G) := hG
    have HPL : Hid (p.blocks = l) := hpl
    have h0 : (⟨#[84, 87]⟩ : ByteArray) ++ ⟨#[byt args, byt regs, byt data, byt slots]⟩ ++ ⟨#[byt l.length]⟩ = progTo p 0 := by
      show str [84, 87] ++ str [_, _, _, _] ++ str [_] = _
      rw [str_append, str_append, hp]; rfl
    have hlen : l.length ≤ 6 := by have := (progGood_len hgp).2; rw [hpl] at this; exact this
    have HO : Hid (∀ k, k < l.length → (bops l k).length ≤ 12) := by intro k hk; have := progGood_ops hgp (k := k) (by rw [hpl]; exact hk); rw [hpl] at this; exact this
    have HSZ : Hid (∀ k, (progTo p k).size ≤ 330) := fun k => progTo_size hgp k
    have HST : Hid (∀ k, k < l.length → progTo p (k + 1) = progTo p k ++ str (blockText ⟨bops l k, ⟨bek l k, ber l k, bex l k, bey l k⟩⟩)) := by
      intro k hk
      have := progTo_step (p := p) (k := k) (by rw [hpl]; exact hk)
      rw [hpl] at this
      exact this
    have HEN : Hid (progTo p l.length = G) := by
      show _ = _
      rw [← hG]
      exact progTo_end (by rw [hpl]; exact Nat.le_refl _)
    clear hG hgp hpl hp
    go_enter Try.func57, Try.ntmps57
    go_wp2_with fail
    refine hw.mono ?_
    clear hw
    rintro e w1 ⟨rfl, hb1⟩
    rw [hg]
    have hb1' : Below (w.heap.size + 1) (w.alloc (.cells #[.int .i64 args, .int .i64 regs, .int .i64 data, .int .i64 slots, .slice ao l.length cap] 24)) w1 := by simpa using hb1
    clear hb1
    have p0 : w1.cell? ⟨w.heap.size, 0, none⟩ = some (.int .i64 args) := (hb1'.cell (by simp)).trans (by simp)
    have p1 : w1.cell? ⟨w.heap.size, 1, none⟩ = some (.int .i64 regs) := (hb1'.cell (by simp)).trans (by simp)
    have p2 : w1.cell? ⟨w.heap.size, 2, none⟩ = some (.int .i64 data) := (hb1'.cell (by simp)).trans (by simp)
    have p3 : w1.cell? ⟨w.heap.size, 3, none⟩ = some (.int .i64 slots) := (hb1'.cell (by simp)).trans (by simp)
    have p4 : w1.cell? ⟨w.heap.size, 4, none⟩ = some (.slice ao l.length cap) := (hb1'.cell (by simp)).trans (by simp)
    have hz1 := hb1'.size
    simp at hz1
    go_wp2_with fail
    refine (fourBytes_any _ _ _ _ _).mono ?_
    rintro e w2 ⟨rfl, hb2⟩
    have hb2' := hb1'.trans (hb2.mono (by omega))
    have r4 := cell_keep hb2 p4
    have hz2 := hb2.size
    clear p0 p1 p2 p3 p4
    go_wp2_with fail
    refine (oneByte_any _ _).mono ?_
    rintro e w3 ⟨rfl, hb3⟩
    have hb3' := hb2'.trans (hb3.mono (by omega))
    clear r4 hb2 hb3 hb1' hb2'
    go_wp2
    go_loopw [4, 5] (fun s i wr => ∃ (k : Nat), k ≤ l.length ∧ i = .int .i64 k ∧ s = .string (progTo p k) ∧ Below (w.heap.size + 1) (w.alloc (.cells #[.int .i64 args, .int .i64 regs, .int .i64 data, .int .i64 slots, .slice ao l.length cap] 24)) wr)
      (fun _ i _ => l.length - (intOf i).toNat)
    case atStart => exact ⟨0, Nat.zero_le _, rfl, by rw [← h0], hb3'⟩
    case round =>
      clear h0 hb3' hz1 hz2 w1 w2 w3
      obtain ⟨k, hk, rfl, rfl, hbel⟩ := hrel
      have hb0 := Below.under hbel
      have p4 : wr.cell? ⟨w.heap.size, 4, none⟩ = some (.slice ao l.length cap) := (hbel.cell (by simp)).trans (by simp)
      have hz := hbel.size
      simp at hz
      have hsz := HSZ.out k
      by_cases hlt : k < l.length
      · obtain ⟨b, off, sv, rfl, c1, c2, c3, c4, c5, c6⟩ := hc k hlt
        have e1 := cell_keep hb0 c1
        have e2 := cell_keep hb0 c2
        have e3 := cell_keep hb0 c3
        have e4 := cell_keep hb0 c4
        have e5 := cell_keep hb0 c5
        have e6 := c6.keep hb0
        have hol := HO.out k hlt
        have HS : Hid (progTo p (k + 1) = progTo p k ++ str (blockText ⟨bops l k, ⟨bek l k, ber l k, bex l k, bey l k⟩⟩)) := HST.out k hlt
        have hsz2 : (str (blockText ⟨bops l k, ⟨bek l k, ber l k, bex l k, bey l k⟩⟩)).size ≤ 100 := by rw [str_size, blockText_length]; simp only []; omega
        obtain ⟨so, sc, es, _, _⟩ := id e6
        subst es
        go_wp2_with fail
        refine (cBlockText_any _ _ _ _ _ _ _ e6 hol).mono ?_
        rintro e w1 ⟨rfl, hb1⟩
        have hb4 := hbel.trans (hb1.mono (by omega))
        clear e1 e2 e3 e4 e5 e6 p4
        go_wp2
        go_roundw
        case rel => exact ⟨k + 1, by omega, by go_num, by rw [HS.out], hb4⟩
        case measure => simp [intOf]; omega
      · obtain rfl : k = l.length := by omega
        have he := HEN.out
        go_wp2
        go_ret2
        exact ⟨by simp [he], hb0⟩

end Go.Proofs.Ytdjdjkgoelbbdaa

/- Programs that lie in memory of their own, each list for itself. -/
set_option linter.unusedSimpArgs false
set_option linter.unusedVariables false
namespace Go.Proofs.Ytdjdjkgoelbbdaa
open Go.RowKit

def opCells (l : List OpD) : List Value := l.flatMap fun o => [.int .i64 o.kind, .int .i64 o.a, .int .i64 o.b, .int .i64 o.c]

theorem opCells_snoc (l : List OpD) (k a b c : Int) : opCells (l ++ [⟨k, a, b, c⟩]) = opCells l ++ [.int .i64 k, .int .i64 a, .int .i64 b, .int .i64 c] := by simp [opCells]

theorem opCells_length (l : List OpD) : (opCells l).length = l.length * 4 := by
  induction l with
  | nil => rfl
  | cons p r ih => simp only [opCells, List.flatMap_cons, List.length_append, List.length_cons, List.length_nil] at *; omega

theorem opCells_get (l : List OpD) (i : Nat) (hi : i < l.length) : (opCells l)[i * 4]? = some (.int .i64 (okind l i)) ∧ (opCells l)[i * 4 + 1]? = some (.int .i64 (oa l i)) ∧ (opCells l)[i * 4 + 2]? = some (.int .i64 (ob l i)) ∧ (opCells l)[i * 4 + 3]? = some (.int .i64 (oc l i)) := by
  induction l generalizing i with
  | nil => simp at hi
  | cons p r ih =>
    cases i with
    | zero => exact ⟨rfl, rfl, rfl, rfl⟩
    | succ i =>
      have h := ih i (by simpa using hi)
      have e1 : (i + 1) * 4 = i * 4 + 1 + 1 + 1 + 1 := by omega
      rw [e1]
      exact h

def blkCells (bv : List (BlockD × Value)) : List Value := bv.flatMap fun x => [x.2, .int .i64 x.1.fin.kind, .int .i64 x.1.fin.r, .int .i64 x.1.fin.x, .int .i64 x.1.fin.y]

theorem blkCells_snoc (bv : List (BlockD × Value)) (l : List OpD) (k r x y : Int) (sv : Value) : blkCells (bv ++ [(⟨l, ⟨k, r, x, y⟩⟩, sv)]) = blkCells bv ++ [sv, .int .i64 k, .int .i64 r, .int .i64 x, .int .i64 y] := by simp [blkCells]

theorem blkCells_length (bv : List (BlockD × Value)) : (blkCells bv).length = bv.length * 5 := by
  induction bv with
  | nil => rfl
  | cons p r ih => simp only [blkCells, List.flatMap_cons, List.length_append, List.length_cons, List.length_nil] at *; omega

theorem blkCells_get (bv : List (BlockD × Value)) (i : Nat) (hi : i < bv.length) : (blkCells bv)[i * 5]? = some bv[i].2 ∧ (blkCells bv)[i * 5 + 1]? = some (.int .i64 bv[i].1.fin.kind) ∧ (blkCells bv)[i * 5 + 2]? = some (.int .i64 bv[i].1.fin.r) ∧ (blkCells bv)[i * 5 + 3]? = some (.int .i64 bv[i].1.fin.x) ∧ (blkCells bv)[i * 5 + 4]? = some (.int .i64 bv[i].1.fin.y) := by
  induction bv generalizing i with
  | nil => simp at hi
  | cons p r ih =>
    cases i with
    | zero => exact ⟨rfl, rfl, rfl, rfl, rfl⟩
    | succ i =>
      have h := ih i (by simpa using hi)
      have e1 : (i + 1) * 5 = i * 5 + 1 + 1 + 1 + 1 + 1 := by omega
      rw [e1]
      exact h

/-- The blocks bv lie at v, in memory from block base on, each list in a block of its own. -/
structure OwnBlocks (w : World) (base : Nat) (v : Value) (bv : List (BlockD × Value)) : Prop where
  row : w.ownsRow base 76 5 v bv.length (blkCells bv)
  each : ∀ x ∈ bv, w.ownsRow base 78 4 x.2 x.1.ops.length (opCells x.1.ops)
  apart : bv.Pairwise fun x y => ∀ g, x.2.ownBlock = some g → y.2.ownBlock ≠ some g

def bdat (bv : List (BlockD × Value)) : List BlockD := bv.map (·.1)

theorem bdat_length (bv : List (BlockD × Value)) : (bdat bv).length = bv.length := by simp [bdat]

theorem bdat_get (bv : List (BlockD × Value)) {i : Nat} (hi : i < bv.length) : bops (bdat bv) i = bv[i].1.ops ∧ bfin (bdat bv) i = bv[i].1.fin := by
  constructor <;> simp [bops, bfin, bdat, hi]

theorem ownBlocks_nil (w : World) (base : Nat) : OwnBlocks w base (.slice none 0 0) [] :=
  ⟨World.ownsRow_nil _ _ _ _, fun x hx => by simp at hx, List.Pairwise.nil⟩

theorem OwnBlocks.below {w w' : World} {base : Nat} {v : Value} {bv : List (BlockD × Value)} (h : OwnBlocks w base v bv) {B : Nat} (hb : Below B w w') (hB : w.heap.size ≤ B) : OwnBlocks w' base v bv :=
  ⟨owns_below h.row hb hB, fun x hx => owns_below (h.each x hx) hb hB, h.apart⟩

theorem OwnBlocks.alloc {w : World} {base : Nat} {v : Value} {bv : List (BlockD × Value)} (h : OwnBlocks w base v bv) (o : Obj) : OwnBlocks (w.alloc o) base v bv :=
  ⟨h.row.alloc o, fun x hx => (h.each x hx).alloc o, h.apart⟩

theorem OwnBlocks.set {w : World} {base : Nat} {v : Value} {bv : List (BlockD × Value)} (h : OwnBlocks w base v bv) {a : Addr} (ha : a.block < base) (u : Value) : OwnBlocks (w.setCell a u) base v bv :=
  ⟨ownsRow_setCell_below h.row ha u, fun x hx => ownsRow_setCell_below (h.each x hx) ha u, h.apart⟩

theorem OwnBlocks.base {w : World} {base base' : Nat} {v : Value} {bv : List (BlockD × Value)} (h : OwnBlocks w base v bv) (hb : base' ≤ base) : OwnBlocks w base' v bv :=
  ⟨owns_base h.row hb, fun x hx => owns_base (h.each x hx) hb, h.apart⟩

theorem OwnBlocks.snoc {w w' : World} {base : Nat} {v v' : Value} {bv : List (BlockD × Value)} (h : OwnBlocks w base v bv) {l : List OpD} {k r x y : Int} {sv : Value}
    (hx : w.ownsRow base 78 4 sv l.length (opCells l)) (hfree : ∀ y ∈ bv, ∀ g, y.2.ownBlock = some g → sv.ownBlock ≠ some g)
    (hg : w.grownBy w' v.ownBlock) (hown : w'.ownsRow base 76 5 v' (bv.length + 1) (blkCells bv ++ [sv, .int .i64 k, .int .i64 r, .int .i64 x, .int .i64 y])) : OwnBlocks w' base v' (bv ++ [(⟨l, ⟨k, r, x, y⟩⟩, sv)]) := by
  have keep : ∀ (u : Value) (ps : List OpD), w.ownsRow base 78 4 u ps.length (opCells ps) → w'.ownsRow base 78 4 u ps.length (opCells ps) := by
    intro u ps hu
    refine hu.kept hg ?_
    cases hb : u.ownBlock with
    | none => exact .inl rfl
    | some g => exact .inr (fun e => owns_apart hu h.row (by decide) g hb e.symm)
  refine ⟨by rw [blkCells_snoc]; simpa using hown, ?_, ?_⟩
  · intro y hy
    rcases List.mem_append.1 hy with hy | hy
    · exact keep _ _ (h.each y hy)
    · simp at hy; subst hy; exact keep _ _ hx
  · rw [List.pairwise_append]
    refine ⟨h.apart, by simp, ?_⟩
    intro a ha b hb
    simp at hb
    subst hb
    exact hfree a ha

theorem owns_ops_at {w : World} {base : Nat} {so : Option Addr} {n sc : Nat} {l : List OpD} (h : w.ownsRow base 78 4 (.slice so n sc) l.length (opCells l)) {j : Nat} (hj : j < l.length) :
    ∃ b, so = some ⟨b, 0, none⟩ ∧ base ≤ b ∧ w.cell? ⟨b, j * 4, none⟩ = some (.int .i64 (okind l j)) ∧ w.cell? ⟨b, j * 4 + 1, none⟩ = some (.int .i64 (oa l j)) ∧ w.cell? ⟨b, j * 4 + 2, none⟩ = some (.int .i64 (ob l j)) ∧ w.cell? ⟨b, j * 4 + 3, none⟩ = some (.int .i64 (oc l j)) ∧ ∀ o, w.frozen? ⟨b, o, none⟩ = false := by
  obtain ⟨ao', cap', hv'⟩ := owns_slice h
  simp only [Value.slice.injEq] at hv'
  obtain ⟨rfl, rfl, rfl⟩ := hv'
  have hl := opCells_length l
  obtain ⟨b, hao, hbs, hb, hc⟩ := owns_cell h rfl (i := j * 4) (by omega)
  obtain ⟨g1, g2, g3, g4⟩ := opCells_get l j hj
  have key : ∀ i u, (opCells l)[i]? = some u → w.cell? ⟨b, i, none⟩ = some u := by
    intro i u hu
    have := h.cells (g := b) hb i u hu
    rwa [Addr.add_lit, Nat.zero_add] at this
  exact ⟨b, hao, hbs, key _ _ g1, key _ _ g2, key _ _ g3, key _ _ g4, fun o => owns_frozen h hb o⟩

theorem ownBlocks_at {w : World} {base : Nat} {ao : Option Addr} {n cap : Nat} {bv : List (BlockD × Value)} (h : OwnBlocks w base (.slice ao n cap) bv) {i : Nat} (hi : i < bv.length) :
    ∃ b, ao = some ⟨b, 0, none⟩ ∧ base ≤ b ∧ w.cell? ⟨b, i * 5, none⟩ = some bv[i].2 ∧ w.cell? ⟨b, i * 5 + 1, none⟩ = some (.int .i64 bv[i].1.fin.kind) ∧ w.cell? ⟨b, i * 5 + 2, none⟩ = some (.int .i64 bv[i].1.fin.r) ∧ w.cell? ⟨b, i * 5 + 3, none⟩ = some (.int .i64 bv[i].1.fin.x) ∧ w.cell? ⟨b, i * 5 + 4, none⟩ = some (.int .i64 bv[i].1.fin.y) ∧ ∀ o, w.frozen? ⟨b, o, none⟩ = false := by
  obtain ⟨ao', cap', hv'⟩ := owns_slice h.row
  simp only [Value.slice.injEq] at hv'
  obtain ⟨rfl, rfl, rfl⟩ := hv'
  have hl := blkCells_length bv
  obtain ⟨b, hao, hbs, hb, hc⟩ := owns_cell h.row rfl (i := i * 5) (by omega)
  obtain ⟨g1, g2, g3, g4, g5⟩ := blkCells_get bv i hi
  have key : ∀ i u, (blkCells bv)[i]? = some u → w.cell? ⟨b, i, none⟩ = some u := by
    intro i u hu
    have := h.row.cells (g := b) hb i u hu
    rwa [Addr.add_lit, Nat.zero_add] at this
  exact ⟨b, hao, hbs, key _ _ g1, key _ _ g2, key _ _ g3, key _ _ g4, key _ _ g5, fun o => owns_frozen h.row hb o⟩

theorem owns_rdOps {w : World} {base : Nat} {v : Value} {l : List OpD} (h : w.ownsRow base 78 4 v l.length (opCells l)) : RdOps w v l := by
  obtain ⟨ao, cap, rfl⟩ := owns_slice h
  refine ⟨ao, cap, rfl, owns_le h, fun i hi => ?_⟩
  obtain ⟨b, e, _, c1, c2, c3, c4, _⟩ := owns_ops_at h hi
  exact ⟨b, 0, e, by rw [Nat.zero_add]; exact c1, by rw [Nat.zero_add]; exact c2, by rw [Nat.zero_add]; exact c3, by rw [Nat.zero_add]; exact c4⟩

theorem OwnBlocks.rd {w : World} {base : Nat} {v : Value} {bv : List (BlockD × Value)} (h : OwnBlocks w base v bv) : RdBlocks w v (bdat bv) := by
  obtain ⟨ao, cap, rfl⟩ := owns_slice h.row
  refine ⟨ao, cap, by rw [bdat_length], by rw [bdat_length]; exact owns_le h.row, fun i hi => ?_⟩
  rw [bdat_length] at hi
  obtain ⟨e1, e2⟩ := bdat_get bv hi
  obtain ⟨b, e, _, c0, c1, c2, c3, c4, _⟩ := ownBlocks_at h hi
  refine ⟨b, 0, bv[i].2, e, by rw [Nat.zero_add]; exact c0, ?_, ?_, ?_, ?_, ?_⟩
  · rw [Nat.zero_add]; unfold bek; rw [e2]; exact c1
  · rw [Nat.zero_add]; unfold ber; rw [e2]; exact c2
  · rw [Nat.zero_add]; unfold bex; rw [e2]; exact c3
  · rw [Nat.zero_add]; unfold bey; rw [e2]; exact c4
  · rw [e1]; exact owns_rdOps (h.each _ (by simp))

end Go.Proofs.Ytdjdjkgoelbbdaa
