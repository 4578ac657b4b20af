/- Other names for registers: what is built. -/
import Derived.Test.YtblhmeidbjigaaaGreatDoorRows
import Derived.WalkKit
import Derived.WalkSpells
import Derived.WalkLawsBesides
import Derived.Laws.BytesArg
import Derived.Deep.QuietTactic
import Derived.BigQuiet
import Derived.Deep.RegionHeld3
import Derived.Deep.RegionLaw
import Derived.Deep.AppendLies
import Derived.Lib.ItoaNum
import Derived.Lib.ItoaLen
import Derived.OpenShut
import Derived.Maps.AppendAt
import Derived.StillTailTactics
import Derived.Shelf.Strconv.Itoa3
import Derived.Shelf.Lay
import Derived.Ground.NamesProg
import Derived.Lib.SmallJoins
import Derived.Lib.Hide
import Derived.ProofKit
import Derived.SizedLaws
import Derived.Deep.Slices
import Derived.BigRegion
import Derived.Test.YtblhmeidbjigaaaGreatDoorKRnBToKSpPRenamed

set_option linter.unusedSimpArgs false
set_option linter.unusedVariables false
namespace Go.Proofs.YtblhmeidbjigaaaGreatDoor
open Go.RowKit

/-- The pairs of the place n among the first i registers. -/
def rowI (l : List Int) (n : Int) : Nat → List PairD
  | 0 => []
  | i + 1 => rowI l n i ++ if l.getD i 0 = n then [⟨i, n⟩] else []
/-- The pairs of the first m places. -/
def psN (l : List Int) : Nat → List PairD
  | 0 => []
  | m + 1 => psN l m ++ rowI l m l.length

theorem mem_rowI {l : List Int} {n : Int} {i : Nat} {x : PairD} : x ∈ rowI l n i ↔ ∃ j : Nat, j < i ∧ l.getD j 0 = n ∧ x = ⟨j, n⟩ := by
  induction i with
  | zero => simp [rowI]
  | succ i ih =>
    simp only [rowI, List.mem_append, ih]
    constructor
    · rintro (⟨j, h1, h2, h3⟩ | h)
      · exact ⟨j, by omega, h2, h3⟩
      · split at h
        · rename_i e
          rw [List.mem_singleton] at h
          exact ⟨i, by omega, e, h⟩
        · cases h
    · rintro ⟨j, h1, h2, h3⟩
      by_cases e : j = i
      · subst e
        right
        rw [if_pos h2, h3]
        exact List.mem_singleton.2 rfl
      · exact .inl ⟨j, by omega, h2, h3⟩

theorem mem_psN {l : List Int} {m : Nat} {x : PairD} : x ∈ psN l m ↔ ∃ n : Nat, n < m ∧ ∃ j : Nat, j < l.length ∧ l.getD j 0 = n ∧ x = ⟨j, n⟩ := by
  induction m with
  | zero => simp [psN]
  | succ m ih =>
    simp only [psN, List.mem_append, ih, mem_rowI]
    constructor
    · rintro (⟨n, h1, h2⟩ | h)
      · exact ⟨n, by omega, h2⟩
      · exact ⟨m, by omega, h⟩
    · rintro ⟨n, h1, h2⟩
      by_cases e : n = m
      · subst e; exact .inr h2
      · exact .inl ⟨n, by omega, h2⟩

theorem nodup_get {l : List Int} (h : l.Nodup) {i j : Nat} (hi : i < l.length) (hj : j < i) : l.getD j 0 ≠ l.getD i 0 := by
  have := List.pairwise_iff_getElem.1 h j i (by omega) hi hj
  simpa [List.getD, hi, show j < l.length by omega] using this

theorem rowI_len {l : List Int} (h : l.Nodup) (n : Int) : ∀ i, i ≤ l.length → (rowI l n i).length ≤ 1 := by
  intro i
  induction i with
  | zero => intro _; simp [rowI]
  | succ i ih =>
    intro hi
    simp only [rowI, List.length_append]
    split
    · rename_i e
      have e0 : rowI l n i = [] := by
        cases hr : rowI l n i with
        | nil => rfl
        | cons x r =>
          exfalso
          have hx : x ∈ rowI l n i := by rw [hr]; exact List.mem_cons_self
          obtain ⟨j, h1, h2, _⟩ := mem_rowI.1 hx
          exact nodup_get h (show i < l.length by omega) h1 (h2.trans e.symm)
      rw [e0]
      simp
    · have := ih (by omega)
      simpa using this

theorem psN_len {l : List Int} (h : l.Nodup) (m : Nat) : (psN l m).length ≤ m := by
  induction m with
  | zero => simp [psN]
  | succ m ih =>
    have := rowI_len h (m : Int) l.length (Nat.le_refl _)
    simp only [psN, List.length_append]
    omega

theorem psN_sorted {l : List Int} (h : l.Nodup) (m : Nat) : (psN l m).Pairwise (fun x y => x.place < y.place) := by
  induction m with
  | zero => simp [psN]
  | succ m ih =>
    simp only [psN]
    rw [List.pairwise_append]
    refine ⟨ih, ?_, ?_⟩
    · have := rowI_len h (m : Int) l.length (Nat.le_refl _)
      match hr : rowI l (m : Int) l.length, this with
      | [], _ => exact List.Pairwise.nil
      | [x], _ => exact List.pairwise_singleton _ _
      | x :: y :: r, h2 => simp at h2
    · intro x hx y hy
      obtain ⟨n, h1, j, _, _, rfl⟩ := mem_psN.1 hx
      obtain ⟨j', _, _, rfl⟩ := mem_rowI.1 hy
      show (n : Int) < (m : Int)
      omega

theorem goodPairs_of {ps : List PairD} : ∀ {last : Int}, (∀ x ∈ ps, below x.reg 8 = true ∧ below x.place 16 = true ∧ last < x.place) → ps.Pairwise (fun x y => x.place < y.place) → goodPairs last ps = true := by
  induction ps with
  | nil => intro _ _ _; rfl
  | cons x r ih =>
    intro last h hp
    rw [List.pairwise_cons] at hp
    obtain ⟨h1, h2, h3⟩ := h x List.mem_cons_self
    simp only [goodPairs, Bool.and_eq_true, decide_eq_true_eq]
    exact ⟨⟨⟨h1, h2⟩, h3⟩, ih (fun y hy => ⟨(h y (List.mem_cons_of_mem _ hy)).1, (h y (List.mem_cons_of_mem _ hy)).2.1, hp.1 y hy⟩) hp.2⟩

/-- The pairings of the first k blocks. -/
def rnPings (l : List Int) (k : Nat) : List PingD := (List.range k).map fun (b : Nat) => ⟨b, psN l 8⟩
theorem rnPings_snoc (l : List Int) (k : Nat) : rnPings l (k + 1) = rnPings l k ++ [⟨k, psN l 8⟩] := by simp [rnPings, List.range_succ]
theorem rnPings_at (l : List Int) {n b : Nat} (hb : b < n) : hsrc (rnPings l n) b = b ∧ hpairs (rnPings l n) b = psN l 8 := by
  simp [hsrc, hpairs, rnPings, List.getD, hb]

theorem rn_hint {A : Nat} {l : List Int} (hl : Names A l) (h8 : l.length ≤ 8) {n : Nat} (hn : 1 ≤ n ∧ n ≤ 6) : goodHint (rnPings l n) = true := by
  simp only [goodHint, goodPings, Bool.and_eq_true, decide_eq_true_eq, List.all_eq_true]
  refine ⟨by simpa [rnPings] using hn, fun x hx => ?_⟩
  simp only [rnPings, List.mem_map, List.mem_range] at hx
  obtain ⟨b, hb, rfl⟩ := hx
  simp only [goodPing, Bool.and_eq_true, below, decide_eq_true_eq]
  refine ⟨⟨by omega, by have := psN_len hl.one 8; omega⟩, goodPairs_of (fun x hx => ?_) (psN_sorted hl.one 8)⟩
  obtain ⟨n, h1, j, h2, _, rfl⟩ := mem_psN.1 hx
  simp only [below, decide_eq_true_eq]
  omega

/-- An end on other registers. -/
def renEnd (f : Int → Int) (e : EndD) : EndD := if e.kind = 1 then e else ⟨e.kind, f e.r, e.x, e.y⟩
def renB (f : Int → Int) (B : BlockD) : BlockD := ⟨B.ops.map (renOp f), renEnd f B.fin⟩

theorem ren_opGood {f : Int → Int} {R : Int} (hf : ∀ i, 0 ≤ i → i < R → 0 ≤ f i ∧ f i < 8) {o : OpD} (g : opGood R 0 o = true) : opGood 8 0 (renOp f o) = true := by
  obtain ⟨gk, ga, gb, gc⟩ := op_plainR g
  have fa := hf _ ga.1 ga.2
  by_cases h1 : o.kind = 1
  · have e : renOp f o = ⟨o.kind, f o.a, o.b, o.c⟩ := by unfold renOp; rw [if_pos h1]
    rw [e]
    unfold opGood at g ⊢
    rw [if_pos h1] at g
    rw [if_pos (show (⟨o.kind, f o.a, o.b, o.c⟩ : OpD).kind = 1 from h1)]
    simp only [Bool.and_eq_true, below, decide_eq_true_eq] at g ⊢
    omega
  have gb' := gb h1
  have fb := hf _ gb'.1 gb'.2
  by_cases h2 : o.kind = 2 ∨ o.kind = 12 ∨ o.kind = 13
  · have e : renOp f o = ⟨o.kind, f o.a, f o.b, o.c⟩ := by unfold renOp; rw [if_neg h1, if_pos h2]
    rw [e]
    unfold opGood at g ⊢
    rw [if_neg h1, if_neg (by omega), if_pos h2] at g
    rw [if_neg (show ¬ (⟨o.kind, f o.a, f o.b, o.c⟩ : OpD).kind = 1 from h1), if_neg (by show ¬ (3 ≤ o.kind ∧ o.kind ≤ 11); omega), if_pos (show o.kind = 2 ∨ o.kind = 12 ∨ o.kind = 13 from h2)]
    simp only [Bool.and_eq_true, below, decide_eq_true_eq] at g ⊢
    omega
  · have hk : 3 ≤ o.kind ∧ o.kind ≤ 11 := by omega
    have gc' := gc hk
    have fc := hf _ gc'.1 gc'.2
    have e : renOp f o = ⟨o.kind, f o.a, f o.b, f o.c⟩ := by unfold renOp; rw [if_neg h1, if_neg h2]
    rw [e]
    unfold opGood
    rw [if_neg (show ¬ (⟨o.kind, f o.a, f o.b, f o.c⟩ : OpD).kind = 1 from h1), if_pos (show 3 ≤ o.kind ∧ o.kind ≤ 11 from hk)]
    simp only [Bool.and_eq_true, below, decide_eq_true_eq]
    omega

theorem ren_endGood {f : Int → Int} {R n : Int} (hf : ∀ i, 0 ≤ i → i < R → 0 ≤ f i ∧ f i < 8) {e : EndD} (g : endGood R n e = true) : endGood 8 n (renEnd f e) = true := by
  unfold renEnd
  by_cases h1 : e.kind = 1
  · rw [if_pos h1]
    unfold endGood at g ⊢
    rw [if_pos h1] at g ⊢
    exact g
  rw [if_neg h1]
  unfold endGood at g ⊢
  rw [if_neg h1] at g
  rw [if_neg (show ¬ (⟨e.kind, f e.r, e.x, e.y⟩ : EndD).kind = 1 from h1)]
  by_cases h2 : e.kind = 2
  · rw [if_pos h2] at g
    rw [if_pos (show e.kind = 2 from h2)]
    simp only [Bool.and_eq_true, below, decide_eq_true_eq] at g ⊢
    have := hf e.r (by omega) (by omega)
    omega
  · rw [if_neg h2] at g
    rw [if_neg (show ¬ e.kind = 2 from h2)]
    split at g
    · rename_i h3
      rw [if_pos (show e.kind = 3 from h3)]
      simp only [Bool.and_eq_true, below, decide_eq_true_eq] at g ⊢
      have := hf e.r (by omega) (by omega)
      omega
    · cases g

theorem names_rng {A : Nat} {l : List Int} (hl : Names A l) : ∀ i, 0 ≤ i → i < ((l.length : Nat) : Int) → 0 ≤ nameOf l i ∧ nameOf l i < 8 := by
  intro i h0 h1
  refine hl.rng _ ?_
  unfold nameOf
  have : i.toNat < l.length := by omega
  simp [List.getD, this]

/-- What is built at the end. -/
theorem rn_twin {A : Nat} {a2 : Int} {l : List Int} {l0 m : List BlockD} (hl : Names A l) (h8 : l.length ≤ 8) (g : progGood ⟨A, (l.length : Nat), a2, 0, l0⟩ = true) (sp : ∀ b, b < l0.length → (bops l0 b).length ≤ 7) (hm : m.length = l0.length)
    (each : ∀ b, b < l0.length → bops m b = (bops l0 b).map (renOp (nameOf l)) ∧ bfin m b = renEnd (nameOf l) (bfin l0 b)) :
    progGood ⟨A, 8, a2, 0, m⟩ = true ∧ ValAns (str (progText ⟨A, (l.length : Nat), a2, 0, l0⟩)) (str (progText ⟨A, 8, a2, 0, m⟩)) (str (hintText (rnPings l l0.length))) 0 0 := by
  have g0 := g
  have hn := progGood_len g
  have hn' : 1 ≤ l0.length ∧ l0.length ≤ 6 := hn
  have gq : progGood ⟨A, 8, a2, 0, m⟩ = true := by
    simp only [progGood, Bool.and_eq_true, decide_eq_true_eq] at g ⊢
    obtain ⟨⟨⟨⟨⟨g1, g2⟩, g3⟩, g4⟩, g5⟩, g6⟩ := g
    refine ⟨⟨⟨⟨⟨by omega, by omega⟩, g3⟩, by omega⟩, by rw [hm]; exact g5⟩, ?_⟩
    simp only [blocksGood, List.all_eq_true]
    intro x hx
    obtain ⟨b, hb, rfl⟩ := List.getElem_of_mem hx
    have hb0 : b < l0.length := by rw [← hm]; exact hb
    obtain ⟨e1, e2⟩ := each b hb0
    have e3 : m[b] = ⟨bops m b, bfin m b⟩ := by simp [bops, bfin, List.getD, hb]
    have gb := good_at g0 hb0
    rw [e3, e1, e2]
    simp only [blockGood, Bool.and_eq_true, decide_eq_true_eq, opsGood, List.all_eq_true] at gb ⊢
    refine ⟨⟨by rw [List.length_map]; exact gb.1.1, fun o ho => ?_⟩, by rw [hm]; exact ren_endGood (names_rng hl) gb.2⟩
    obtain ⟨o', ho', rfl⟩ := List.mem_map.1 ho
    exact ren_opGood (names_rng hl) (gb.1.2 o' ho')
  refine ⟨gq, twin_ren (p := ⟨A, (l.length : Nat), a2, 0, l0⟩) (q := ⟨A, 8, a2, 0, m⟩) (f := nameOf l) (ps := psN l 8) g0 gq (rn_hint hl h8 hn') rfl rfl rfl rfl hm sp (fun b hb => (each b hb).1) ?_ (by simp [rnPings]) (fun b hb => rnPings_at l hb) ?_ ?_ ?_ (names_rng hl) ?_⟩
  · intro b hb
    show (bfin m b).kind = (bfin l0 b).kind ∧ (bfin m b).x = (bfin l0 b).x ∧ (bfin m b).y = (bfin l0 b).y ∧ ((bfin l0 b).kind ≠ 1 → (bfin m b).r = nameOf l (bfin l0 b).r)
    rw [(each b hb).2]
    unfold renEnd
    split
    · rename_i e; exact ⟨rfl, rfl, rfl, fun h => absurd e h⟩
    · exact ⟨rfl, rfl, rfl, fun _ => rfl⟩
  · intro i j i0 i1 j0 j1 e
    have i1' : i < ((l.length : Nat) : Int) := i1
    have j1' : j < ((l.length : Nat) : Int) := j1
    unfold nameOf at e
    by_cases h1 : i.toNat < j.toNat
    · exact absurd e (nodup_get hl.one (show j.toNat < l.length by omega) h1)
    · by_cases h2 : j.toNat < i.toNat
      · exact absurd e.symm (nodup_get hl.one (show i.toNat < l.length by omega) h2)
      · omega
  · intro x hx
    obtain ⟨n, h1, j, h2, h3, rfl⟩ := mem_psN.1 hx
    exact ⟨by show (0 : Int) ≤ (j : Int); omega, by show (j : Int) < ((l.length : Nat) : Int); omega, by show (n : Int) = nameOf l (j : Int); rw [nameOf_nat, h3]⟩
  · intro i i0 i1
    have i1' : i < ((l.length : Nat) : Int) := i1
    have hr := names_rng hl i i0 i1'
    refine mem_psN.2 ⟨(nameOf l i).toNat, by omega, i.toNat, by omega, ?_, ?_⟩
    · show nameOf l i = _; omega
    · have e1 : ((i.toNat : Nat) : Int) = i := by omega
      have e2 : (((nameOf l i).toNat : Nat) : Int) = nameOf l i := by omega
      rw [e1, e2]
  · intro i i0 i1
    have i1' : i < (A : Int) := i1
    have hA : (A : Int) ≤ ((l.length : Nat) : Int) := by
      simp only [progGood, Bool.and_eq_true, decide_eq_true_eq] at g
      exact g.1.1.1.1.2.2
    unfold nameOf
    rw [hl.ids i.toNat (by omega) (by omega)]
    omega

theorem blkCells_setR (bv : List (BlockD × Value)) (i : Nat) (hi : i < bv.length) (r : Int) :
    blkCells (bv.set i (⟨bv[i].1.ops, ⟨bv[i].1.fin.kind, r, bv[i].1.fin.x, bv[i].1.fin.y⟩⟩, bv[i].2)) = (blkCells bv).set (i * 5 + 2) (.int .i64 r) := by
  induction bv generalizing i with
  | nil => simp at hi
  | cons p q ih =>
    cases i with
    | zero => rfl
    | succ i =>
      have h := ih i (by simpa using hi)
      have e1 : (i + 1) * 5 + 2 = i * 5 + 2 + 1 + 1 + 1 + 1 + 1 := by omega
      rw [e1]
      show [_, _, _, _, _] ++ blkCells (q.set i _) = [_, _, _, _, _] ++ (blkCells q).set (i * 5 + 2) _
      rw [← h]
      rfl

theorem OwnBlocks.setR {w : World} {base b n cap : Nat} {bv : List (BlockD × Value)} (h : OwnBlocks w base (.slice (some ⟨b, 0, none⟩) n cap) bv) {i : Nat} (hi : i < bv.length) (r : Int) :
    OwnBlocks (w.setCell ⟨b, i * 5 + 2, none⟩ (.int .i64 r)) base (.slice (some ⟨b, 0, none⟩) n cap) (bv.set i (⟨bv[i].1.ops, ⟨bv[i].1.fin.kind, r, bv[i].1.fin.x, bv[i].1.fin.y⟩⟩, bv[i].2)) := by
  have hl := blkCells_length bv
  have key : ∀ {v : Value} {m : Nat} {ys : List Value}, w.ownsRow base 77 4 v m ys → v.ownBlock ≠ some b := fun hv e => owns_apart h.row hv (by decide) b rfl e
  refine ⟨?_, ?_, ?_⟩
  · rw [blkCells_setR bv i hi, List.length_set]
    exact owns_set h.row rfl (by omega) _
  · intro y hy
    rcases List.mem_or_eq_of_mem_set hy with hy | rfl
    · exact owns_unset (h.each y hy) (key (h.each y hy)) _
    · have hx := h.each _ (List.getElem_mem hi)
      exact owns_unset hx (key hx) _
  · rw [List.pairwise_iff_getElem]
    intro p q hp hq hpq g hg
    have hp' : p < bv.length := by simpa using hp
    have hq' : q < bv.length := by simpa using hq
    have ap := List.pairwise_iff_getElem.1 h.apart p q hp' hq' hpq
    rw [List.getElem_set] at hg ⊢
    split at hg
    · rename_i e
      rw [if_neg (by omega)]
      subst e
      exact ap g hg
    · split
      · rename_i e; subst e; exact ap g hg
      · exact ap g hg

/-- The loop's state: D says what each block is, k how many pairings there are. -/
structure RnSt (wc wr : World) (Qb : Nat) (a0 a2 : Int) (l : List Int) (qg n qc k : Nat) (D : Nat → BlockD) (qv : List (BlockD × Value)) (hval : Value) (hv : List (PingD × Value)) : Prop where
  len : qv.length = n
  dat : ∀ b, b < n → bops (bdat qv) b = (D b).ops ∧ bfin (bdat qv) b = (D b).fin
  low : ∀ x ∈ qv, ∀ g, x.2.ownBlock = some g → g < Qb
  hlen : hv.length = k
  hdt : hdat hv = rnPings l k
  rowQ : Row wr Qb 33 [.int .i64 a0, .int .i64 8, .int .i64 a2, .int .i64 0, .slice (some ⟨qg, 0, none⟩) n qc]
  rowH : Row wr (Qb + 1) 70 [hval]
  ownQ : OwnBlocks wr wc.heap.size (.slice (some ⟨qg, 0, none⟩) n qc) qv
  ownH : OwnHint wr (Qb + 2) hval hv
  below : Below wc.heap.size wc wr
  size : Qb + 2 ≤ wr.heap.size
  qq : qg < Qb
  qb : wc.heap.size ≤ qg

theorem RnSt.keep {wc wr W : World} {Qb : Nat} {a0 a2 : Int} {l : List Int} {qg n qc k : Nat} {D : Nat → BlockD} {qv : List (BlockD × Value)} {hval : Value} {hv : List (PingD × Value)} (h : RnSt wc wr Qb a0 a2 l qg n qc k D qv hval hv) (hb : Below wr.heap.size wr W) : RnSt wc W Qb a0 a2 l qg n qc k D qv hval hv :=
  ⟨h.len, h.dat, h.low, h.hlen, h.hdt, h.rowQ.keep hb, h.rowH.keep hb, h.ownQ.below hb (Nat.le_refl _), h.ownH.below hb (Nat.le_refl _), h.below.trans (hb.mono h.below.size), Nat.le_trans h.size hb.size, h.qq, h.qb⟩

/-- One operation is put down. -/
theorem RnSt.op {wc wr : World} {Qb : Nat} {a0 a2 : Int} {l : List Int} {qg n qc k : Nat} {D : Nat → BlockD} {qv : List (BlockD × Value)} {hval : Value} {hv : List (PingD × Value)} (h : RnSt wc wr Qb a0 a2 l qg n qc k D qv hval hv) {j i g : Nat} (hj : j < n) (hb : j < qv.length) (hg : qv[j].2.ownBlock = some g) (hi : i < qv[j].1.ops.length) (x0 x1 x2 x3 : Int) :
    RnSt wc (set4 wr g (i * 4) x0 x1 x2 x3) Qb a0 a2 l qg n qc k (fun b => if b = j then ⟨(D j).ops.set i ⟨x0, x1, x2, x3⟩, (D j).fin⟩ else D b) (qv.set j (⟨qv[j].1.ops.set i ⟨x0, x1, x2, x3⟩, qv[j].1.fin⟩, qv[j].2)) hval hv := by
  have hgQ := h.low _ (List.getElem_mem hb) g hg
  have hgB := ((h.ownQ.each _ (List.getElem_mem hb)).lt g hg).1
  obtain ⟨e1, e2⟩ := bdat_get qv hb
  have hbm : j < (bdat qv).length := by rw [bdat_length]; exact hb
  have o1 := h.ownQ.setOp hb hg hi x0 x1 x2 x3
  refine ⟨by rw [List.length_set]; exact h.len, ?_, ?_, h.hlen, h.hdt, row_unset4 h.rowQ (by omega) _ _ _ _, row_unset4 h.rowH (by omega) _ _ _ _, o1, ?_, below_set4 h.below hgB _ _ _ _, by simpa [set4] using h.size, h.qq, h.qb⟩
  · intro b hb'
    rw [bdat_set, bops_set hbm, bfin_set hbm]
    obtain ⟨d1, d2⟩ := h.dat b hb'
    by_cases e : b = j
    · subst e
      rw [if_pos rfl, if_pos rfl, if_pos rfl]
      rw [e1] at d1
      rw [e2] at d2
      exact ⟨by rw [d1], d2⟩
    · rw [if_neg e, if_neg e, if_neg e]
      exact ⟨d1, d2⟩
  · intro x hx g' hg'
    rcases List.mem_or_eq_of_mem_set hx with hx | rfl
    · exact h.low x hx g' hg'
    · exact h.low _ (List.getElem_mem hb) g' hg'
  · exact (((h.ownH.set (a := ⟨g, i * 4, none⟩) (by show g < Qb + 2; omega) _).set (a := ⟨g, i * 4 + 1, none⟩) (by show g < Qb + 2; omega) _).set (a := ⟨g, i * 4 + 2, none⟩) (by show g < Qb + 2; omega) _).set (a := ⟨g, i * 4 + 3, none⟩) (by show g < Qb + 2; omega) _

/-- An end's register is put down. -/
theorem RnSt.endR {wc wr : World} {Qb : Nat} {a0 a2 : Int} {l : List Int} {qg n qc k : Nat} {D : Nat → BlockD} {qv : List (BlockD × Value)} {hval : Value} {hv : List (PingD × Value)} (h : RnSt wc wr Qb a0 a2 l qg n qc k D qv hval hv) {j : Nat} (hj : j < n) (hb : j < qv.length) (r : Int) :
    RnSt wc (wr.setCell ⟨qg, j * 5 + 2, none⟩ (.int .i64 r)) Qb a0 a2 l qg n qc k (fun b => if b = j then ⟨(D j).ops, ⟨(D j).fin.kind, r, (D j).fin.x, (D j).fin.y⟩⟩ else D b) (qv.set j (⟨qv[j].1.ops, ⟨qv[j].1.fin.kind, r, qv[j].1.fin.x, qv[j].1.fin.y⟩⟩, qv[j].2)) hval hv := by
  have hqQ := h.qq
  have hqB := h.qb
  obtain ⟨e1, e2⟩ := bdat_get qv hb
  have hbm : j < (bdat qv).length := by rw [bdat_length]; exact hb
  refine ⟨by rw [List.length_set]; exact h.len, ?_, ?_, h.hlen, h.hdt, h.rowQ.unset (a := ⟨qg, j * 5 + 2, none⟩) (by show Qb ≠ qg; omega) _, h.rowH.unset (a := ⟨qg, j * 5 + 2, none⟩) (by show Qb + 1 ≠ qg; omega) _, h.ownQ.setR hb r, h.ownH.set (a := ⟨qg, j * 5 + 2, none⟩) (by show qg < Qb + 2; omega) _, h.below.setCell (p := ⟨qg, j * 5 + 2, none⟩) hqB _, by simpa using h.size, h.qq, h.qb⟩
  · intro b hb'
    rw [bdat_set, bops_set hbm, bfin_set hbm]
    obtain ⟨d1, d2⟩ := h.dat b hb'
    by_cases e : b = j
    · subst e
      rw [if_pos rfl, if_pos rfl, if_pos rfl]
      rw [e1] at d1
      rw [e2] at d2
      exact ⟨d1, by rw [d2]⟩
    · rw [if_neg e, if_neg e, if_neg e]
      exact ⟨d1, d2⟩
  · intro x hx g' hg'
    rcases List.mem_or_eq_of_mem_set hx with hx | rfl
    · exact h.low x hx g' hg'
    · exact h.low _ (List.getElem_mem hb) g' hg'

/-- A pairing is put down. -/
theorem RnSt.ping {wc W w7 : World} {Qb : Nat} {a0 a2 : Int} {l : List Int} {qg n qc k : Nat} {D : Nat → BlockD} {qv : List (BlockD × Value)} {hval : Value} {hv : List (PingD × Value)} (S : RnSt wc W Qb a0 a2 l qg n qc k D qv hval hv)
    {sv v' : Value} {o : Obj} (pown : W.ownsRow (Qb + 2) 83 2 sv (psN l 8).length (pairCells (psN l 8))) (hfree : ∀ y ∈ hv, ∀ g, y.2.ownBlock = some g → sv.ownBlock ≠ some g)
    (hgrow : (W.alloc o).grownBy w7 hval.ownBlock) (hown : w7.ownsRow (Qb + 2) 81 2 v' (hv.length + 1) (pingCells hv ++ [.int .i64 k, sv])) :
    RnSt wc (w7.setCell ⟨Qb + 1, 0, none⟩ v') Qb a0 a2 l qg n qc (k + 1) D qv v' (hv ++ [(⟨k, psN l 8⟩, sv)]) := by
  have hs := S.size
  have hqQ := S.qq
  have hqB := S.qb
  have own7 : OwnHint w7 (Qb + 2) v' (hv ++ [(⟨k, psN l 8⟩, sv)]) := (S.ownH.alloc _).snoc (x := ⟨k, psN l 8⟩) (pown.alloc _) hfree hgrow hown
  have hb7 : Below (Qb + 2) W w7 := ((Below.refl (Qb + 2) W).alloc hs o).grown hgrow (by simp; omega) (fun g hg => (S.ownH.row.lt g hg).1)
  have hz7 := hb7.size
  have rQ7 := S.rowQ.below hb7 (by omega)
  have rH7 := S.rowH.below hb7 (by omega)
  have oQ7 : OwnBlocks w7 wc.heap.size (.slice (some ⟨qg, 0, none⟩) n qc) qv := (S.ownQ.alloc o).keptOther (S.ownH.row.alloc o) hgrow
  refine ⟨S.len, S.dat, S.low, by simp [S.hlen], by rw [hdat_snoc, S.hdt, rnPings_snoc], rQ7.unset (a := ⟨Qb + 1, 0, none⟩) (by show Qb ≠ Qb + 1; omega) _, rH7.set 0 v', oQ7.setHint rH7 v', own7.set (a := ⟨Qb + 1, 0, none⟩) (by show Qb + 1 < Qb + 2; omega) _, ?_, by simp; omega, S.qq, S.qb⟩
  exact (S.below.trans (hb7.mono (by omega))).setCell (p := ⟨Qb + 1, 0, none⟩) (by show wc.heap.size ≤ Qb + 1; omega) _

end Go.Proofs.YtblhmeidbjigaaaGreatDoor
