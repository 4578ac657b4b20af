/- Registers kept in slots: what is built, and blocks whose list of operations is another one. -/
import Derived.Test.YtblhmeidbjigaabGreatDoorRows
import Derived.WalkKit
import Derived.WalkSpells
import Derived.WalkLawsBesides
import Derived.Laws.BytesArg
import Derived.Deep.QuietTactic
import Derived.BigQuiet
import Derived.Deep.RegionHeld3
import Derived.Lib.ItoaNum
import Derived.Lib.ItoaLen
import Derived.OpenShut
import Derived.Maps.AppendAt
import Derived.StillTailTactics
import Derived.Shelf.Strconv.Itoa3
import Derived.Shelf.Lay
import Derived.Ground.NamesProg
import Derived.Lib.SmallJoins
import Derived.Lib.Hide
import Derived.Deep.RegionLaw
import Derived.BigRegion
import Derived.Deep.AppendLies
import Derived.ProofKit
import Derived.SizedLaws
import Derived.Deep.Slices
import Derived.Test.YtblhmeidbjigaabGreatDoorVCmHToTSpillSpilled

set_option linter.unusedSimpArgs false
set_option linter.unusedVariables false
namespace Go.Proofs.YtblhmeidbjigaabGreatDoor
open Go.RowKit

theorem getOps_snoc (i : Nat) : getOps (i + 1) = getOps i ++ [⟨15, i, i, 0⟩] := by simp [getOps, List.range_succ]
theorem putOps_snoc (i : Nat) : putOps (i + 1) = putOps i ++ [⟨14, i, i, 0⟩] := by simp [putOps, List.range_succ]

/-- The operations ahead of the block's own. -/
def gl (b i : Nat) : List OpD := if b = 0 then [] else getOps i
/-- The first i pairs. -/
def spP (a1 : Int) (b i : Nat) : List PairD := (List.range i).map fun (k : Nat) => ⟨k, if b = 0 then (k : Int) else a1 + k⟩
theorem spP_snoc (a1 : Int) (b i : Nat) : spP a1 b (i + 1) = spP a1 b i ++ [⟨i, if b = 0 then (i : Int) else a1 + i⟩] := by simp [spP, List.range_succ]
theorem spP_length (a1 : Int) (b i : Nat) : (spP a1 b i).length = i := by simp [spP]
/-- A block's operations when it is done. -/
def spOps (r : Nat) (l0 : List BlockD) (b : Nat) : List OpD := gl b r ++ (bops l0 b ++ putOps r)
/-- The pairings of the first k blocks. -/
def spPings (a1 : Int) (k : Nat) : List PingD := (List.range k).map fun (b : Nat) => ⟨b, spP a1 b a1.toNat⟩
theorem spPings_snoc (a1 : Int) (k : Nat) : spPings a1 (k + 1) = spPings a1 k ++ [⟨k, spP a1 k a1.toNat⟩] := by simp [spPings, List.range_succ]

theorem blkCells_setAll (bv : List (BlockD × Value)) (i : Nat) (hi : i < bv.length) (l : List OpD) (sv : Value) :
    blkCells (bv.set i (⟨l, bv[i].1.fin⟩, sv)) = (blkCells bv).set (i * 5) sv := by
  induction bv generalizing i with
  | nil => simp at hi
  | cons p r ih =>
    cases i with
    | zero => rfl
    | succ i =>
      have h := ih i (by simpa using hi)
      have e1 : (i + 1) * 5 = i * 5 + 1 + 1 + 1 + 1 + 1 := by omega
      rw [e1]
      show [_, _, _, _, _] ++ blkCells (r.set i _) = [_, _, _, _, _] ++ (blkCells r).set (i * 5) _
      rw [← h]
      rfl

theorem OwnBlocks.setOps {w : World} {base b n cap : Nat} {bv : List (BlockD × Value)} (h : OwnBlocks w base (.slice (some ⟨b, 0, none⟩) n cap) bv) {i : Nat} (hi : i < bv.length) {l : List OpD} {sv : Value}
    (hs : w.ownsRow base 36 4 sv l.length (opCells l)) (hfree : ∀ y ∈ bv, ∀ g, y.2.ownBlock = some g → sv.ownBlock ≠ some g) :
    OwnBlocks (w.setCell ⟨b, i * 5, none⟩ sv) base (.slice (some ⟨b, 0, none⟩) n cap) (bv.set i (⟨l, bv[i].1.fin⟩, sv)) := by
  have hl := blkCells_length bv
  have key : ∀ {v : Value} {m : Nat} {ys : List Value}, w.ownsRow base 36 4 v m ys → v.ownBlock ≠ some b := fun hv e => owns_apart h.row hv (by decide) b rfl e
  refine ⟨?_, ?_, ?_⟩
  · rw [blkCells_setAll bv i hi, List.length_set]
    exact owns_set h.row rfl (by omega) _
  · intro y hy
    rcases List.mem_or_eq_of_mem_set hy with hy | rfl
    · exact owns_unset (h.each y hy) (key (h.each y hy)) _
    · exact owns_unset hs (key hs) _
  · rw [List.pairwise_iff_getElem]
    intro p q hp hq hpq g hg
    have hp' : p < bv.length := by simpa using hp
    have hq' : q < bv.length := by simpa using hq
    rw [List.getElem_set] at hg ⊢
    split at hg
    · rename_i e
      rw [if_neg (by omega)]
      intro e2
      exact hfree _ (List.getElem_mem hq') g e2 hg
    · split
      · exact hfree _ (List.getElem_mem hp') g hg
      · exact List.pairwise_iff_getElem.1 h.apart p q hp' hq' hpq g hg

/-- append of nothing. -/
theorem wpList_append_nil {P : Program} {ops : Array Oper} {rest : List Oper} {o : Oper} {a : Act} {w : World} {Q : Exit → Act → World → Prop} (hgd : o.guard = none) (s x : Operand) (t : TypeId)
    (ho : o.op = .call { callee := .builtin .append, args := #[s, x], argTypes := #[t, t] }) (e : TypeId) (i : TypeInfo) (ht : P.underlying t = some (.slice e)) (hi : P.info? e = some i)
    (ao : Option Addr) (n cap : Nat) (hs : a.eval s = .slice ao n cap) (hx : a.eval x = .slice none 0 0) (hcap : n ≤ cap)
    (h : wpList P ops Q rest (a.put o.dst (.slice ao n cap)) w) : wpList P ops Q (o :: rest) a w :=
  wpList_plain hgd fun _ hK => by
    unfold Oper.wp execOp
    have hr : (Builtin.append_ #[t, t] o.type #[.slice ao n cap, .slice none 0 0]).run P w = .ok (.slice ao n cap) w := by
      cases ao <;> simp [Builtin.append_, run_underlying ht, sizeOf, typeInfo, hi, Builtin.lenOf, Builtin.firstCells, hcap, storeCells]
    simp only [ho, resolve, invoke, builtin, Sem.run_bind, Sem.run_pure, Result.andThen_ok, List.map_toArray, List.map_cons, List.map_nil, hs, hx, hr]
    exact hK _ _ h

/-- A list that is read to be appended: nothing, or cells side by side. -/
def SrcRow (w : World) (size : Nat) (xv : Value) (m : Nat) (news : List Value) : Prop :=
  news.length = m * size ∧ (∀ u ∈ news, u.oneCell' = true) ∧ ((xv = .slice none 0 0 ∧ m = 0) ∨ ∃ ad c, xv = .slice (some ad) m c ∧ ∀ j u, news[j]? = some u → w.cell? (ad.add j) = some u)

theorem owns_src {w : World} {base : Nat} {e : TypeId} {size : Nat} {v : Value} {n : Nat} {xs : List Value} (h : w.ownsRow base e size v n xs) (h1 : ∀ u ∈ xs, u.oneCell' = true) : SrcRow w size v n xs := by
  refine ⟨h.1, h1, ?_⟩
  rcases h.2 with ⟨rfl, h0⟩ | ⟨g, cap, cur, rfl, _⟩
  · exact .inl ⟨rfl, h0⟩
  · exact .inr ⟨_, _, rfl, h.cells rfl⟩

theorem grown_refl (w : World) (r : Option Nat) : w.grownBy w r := ⟨rfl, rfl, rfl, Nat.le_refl _, fun _ _ _ => rfl⟩

/-- append of a list that may be nil. -/
theorem wpList_append_any {P : Program} {ops : Array Oper} {rest : List Oper} {o : Oper} {a : Act} (w : World) {Q : Exit → Act → World → Prop} (hgd : o.guard = none) (s x : Operand) (t : TypeId)
    (ho : o.op = .call { callee := .builtin .append, args := #[s, x], argTypes := #[t, t] })
    (base : Nat) (e : TypeId) (i : TypeInfo) (z : Value) (size bytes : Nat) (ht : P.underlying t = some (.slice e)) (hi : P.info? e = some i) (hz : i.zero = some z)
    (hsize : i.size = size) (hby : i.bytes = bytes) (hzs : z.cells.size = size) (hsz : 0 < size)
    (v : Value) (n : Nat) (xs : List Value) (hs : a.eval s = v) (hown : w.ownsRow base e size v n xs)
    (xv : Value) (m : Nat) (news : List Value) (hx : a.eval x = xv) (hsrc : SrcRow w size xv m news)
    (h63 : n + m ≤ maxLen) (hbytes : (n + m) * bytes ≤ 140737488355328) (hbase : base ≤ w.heap.size)
    (h : ∀ v' w', w'.ownsRow base e size v' (n + m) (xs ++ news) → w.grownBy w' v.ownBlock → wpList P ops Q rest (a.put o.dst v') w') : wpList P ops Q (o :: rest) a w := by
  obtain ⟨hl, h1, hc⟩ := hsrc
  rcases hc with ⟨rfl, rfl⟩ | ⟨ad, c, rfl, hnews⟩
  · have e0 : news = [] := List.eq_nil_of_length_eq_zero (by simpa using hl)
    subst e0
    have hk := h v w (by simpa using hown) (grown_refl _ _)
    rcases hown.2 with ⟨hv, h0⟩ | ⟨g, cap, cur, hv, _, _, hcap, _⟩
    · exact wpList_append_nil hgd s x t ho e i ht hi none 0 0 (hs.trans hv) hx (Nat.le_refl _) (by rw [← hv]; exact hk)
    · exact wpList_append_nil hgd s x t ho e i ht hi _ n cap (hs.trans hv) hx hcap (by rw [← hv]; exact hk)
  · exact wpList_append_own w hgd s x t ho base e i z size bytes ht hi hz hsize hby hzs hsz v n xs hs hown ad m c news hx hl hnews h1 h63 hbytes hbase fun v' w' h2 h3 _ => h v' w' h2 h3

theorem owns_kept2 {w w' : World} {base base' : Nat} {e e' : TypeId} {sz sz' : Nat} {v v' : Value} {n n' : Nat} {xs xs' : List Value} (h : w.ownsRow base e sz v n xs) (h' : w.ownsRow base' e' sz' v' n' xs') (he : e ≠ e') (hg : w.grownBy w' v'.ownBlock) : w'.ownsRow base e sz v n xs := by
  refine h.kept hg ?_
  cases hb : v.ownBlock with
  | none => exact .inl rfl
  | some g => exact .inr (fun c => owns_apart h h' he g hb c.symm)

theorem row_not_own {w : World} {R : Nat} {t : TypeId} {xs : List Value} (hr : Row w R t xs) {base : Nat} {e : TypeId} {sz : Nat} {v : Value} {n : Nat} {ys : List Value} (h : w.ownsRow base e sz v n ys) (he : t ≠ e) : v.ownBlock ≠ some R := by
  intro hb
  rcases h.2 with ⟨rfl, _⟩ | ⟨g, cap, cur, rfl, _, hg, _⟩
  · simp [Value.ownBlock] at hb
  · have e1 : g = R := by simpa [Value.ownBlock] using hb
    subst e1
    have e2 := hg.symm.trans hr
    simp at e2
    exact he e2.2.symm

theorem OwnBlocks.keptOther {w w' : World} {base base' : Nat} {v hv : Value} {bv : List (BlockD × Value)} {m : Nat} {ys : List Value} (h : OwnBlocks w base v bv) (h' : w.ownsRow base' 33 2 hv m ys) (hg : w.grownBy w' hv.ownBlock) : OwnBlocks w' base v bv :=
  ⟨owns_kept2 h.row h' (by decide) hg, fun x hx => owns_kept2 (h.each x hx) h' (by decide) hg, h.apart⟩

theorem OwnBlocks.setHint {w : World} {base : Nat} {v : Value} {bv : List (BlockD × Value)} (h : OwnBlocks w base v bv) {R i : Nat} {xs : List Value} (hr : Row w R 30 xs) (u : Value) : OwnBlocks (w.setCell ⟨R, i, none⟩ u) base v bv :=
  ⟨owns_unset h.row (row_not_own hr h.row (by decide)) u, fun x hx => owns_unset (h.each x hx) (row_not_own hr (h.each x hx) (by decide)) u, h.apart⟩

theorem ops_oneCell (l : List OpD) : ∀ u ∈ opCells l, u.oneCell' = true := by
  intro u hu
  simp only [opCells, List.mem_flatMap] at hu
  obtain ⟨o, _, hu⟩ := hu
  simp at hu
  rcases hu with rfl | rfl | rfl | rfl <;> rfl

/-- What is built at the end. -/
structure SpEnd (a0 a1 a2 : Int) (l0 m : List BlockD) : Prop where
  len : m.length = l0.length
  each : ∀ b, b < l0.length → bfin m b = bfin l0 b ∧ bops m b = spOps a1.toNat l0 b

theorem spP_id (a1 : Int) (r : Nat) : spP a1 0 r = idPairs r := by simp [spP, idPairs]
theorem spP_slot {a1 : Int} {b : Nat} (hb : b ≠ 0) : spP a1 b a1.toNat = slotPairs a1 := by simp [spP, slotPairs, hb]

theorem spill_good {a0 a1 a2 : Int} {l0 m : List BlockD} (g : progGood ⟨a0, a1, a2, 0, l0⟩ = true) (h3 : a1 ≤ 3) (sp : ∀ b, b < l0.length → (bops l0 b).length ≤ 6) (h : SpEnd a0 a1 a2 l0 m) : progGood ⟨a0, a1, a2, a1, m⟩ = true := by
  have g0 := g
  simp only [progGood, Bool.and_eq_true, decide_eq_true_eq] at g ⊢
  obtain ⟨⟨⟨⟨⟨g1, g2⟩, g3⟩, g4⟩, g5⟩, g6⟩ := g
  refine ⟨⟨⟨⟨⟨g1, g2⟩, g3⟩, by omega⟩, by rw [h.len]; exact g5⟩, ?_⟩
  simp only [blocksGood, List.all_eq_true]
  intro x hx
  obtain ⟨b, hb, rfl⟩ := List.getElem_of_mem hx
  have hb0 : b < l0.length := by rw [← h.len]; exact hb
  obtain ⟨e1, e2⟩ := h.each b hb0
  have e3 : m[b] = ⟨bops m b, bfin m b⟩ := by simp [bops, bfin, List.getD, hb]
  have gb := good_at g0 hb0
  rw [e3, e1, e2]
  simp only [blockGood, Bool.and_eq_true, decide_eq_true_eq, opsGood, List.all_eq_true] at gb ⊢
  have hl := sp b hb0
  refine ⟨⟨?_, ?_⟩, by rw [h.len]; exact gb.2⟩
  · unfold spOps gl
    split <;> simp [getOps, putOps] <;> omega
  · intro o ho
    unfold spOps gl at ho
    have hp : ∀ o ∈ putOps a1.toNat, opGood a1 a1 o = true := by
      intro o ho
      simp only [putOps, List.mem_map, List.mem_range] at ho
      obtain ⟨i, hi, rfl⟩ := ho
      simp [opGood, below]; omega
    have hgt : ∀ o ∈ getOps a1.toNat, opGood a1 a1 o = true := by
      intro o ho
      simp only [getOps, List.mem_map, List.mem_range] at ho
      obtain ⟨i, hi, rfl⟩ := ho
      simp [opGood, below]; omega
    have hk : ∀ o ∈ bops l0 b, opGood a1 a1 o = true := by
      intro o ho
      have q := gb.1.2 o ho
      have k := (op_plain q).1
      unfold opGood at q ⊢
      split at q
      · rename_i c; rw [if_pos c]; exact q
      rename_i c1; rw [if_neg c1]
      split at q
      · rename_i c; rw [if_pos c]; exact q
      rename_i c2; rw [if_neg c2]
      split at q
      · rename_i c; rw [if_pos c]; exact q
      · exfalso; omega
    split at ho
    · simp only [List.nil_append, List.mem_append] at ho
      rcases ho with ho | ho
      · exact hk o ho
      · exact hp o ho
    · simp only [List.mem_append] at ho
      rcases ho with ho | ho | ho
      · exact hgt o ho
      · exact hk o ho
      · exact hp o ho

theorem spP_good {a1 : Int} (h1 : 1 ≤ a1) (h3 : a1 ≤ 3) (b : Nat) : goodPairs (-1) (spP a1 b a1.toNat) = true := by
  have : a1 = 1 ∨ a1 = 2 ∨ a1 = 3 := by omega
  rcases this with rfl | rfl | rfl <;> by_cases hb : b = 0 <;> simp [spP, hb, goodPairs, below, List.range_succ]

theorem spill_hint {a1 : Int} (h1 : 1 ≤ a1) (h3 : a1 ≤ 3) {n : Nat} (hn : 1 ≤ n ∧ n ≤ 6) : goodHint (spPings a1 n) = true := by
  simp only [goodHint, goodPings, Bool.and_eq_true, decide_eq_true_eq, List.all_eq_true]
  refine ⟨by simpa [spPings] using hn, fun x hx => ?_⟩
  simp only [spPings, List.mem_map, List.mem_range] at hx
  obtain ⟨b, hb, rfl⟩ := hx
  simp only [goodPing, Bool.and_eq_true, below, decide_eq_true_eq]
  exact ⟨⟨by omega, by rw [spP_length]; omega⟩, spP_good h1 h3 b⟩

theorem spPings_at (a1 : Int) {n b : Nat} (hb : b < n) : hsrc (spPings a1 n) b = b ∧ hpairs (spPings a1 n) b = spP a1 b a1.toNat := by
  simp [hsrc, hpairs, spPings, List.getD, hb]

theorem spill_twin {a0 a1 a2 : Int} {l0 m : List BlockD} (g : progGood ⟨a0, a1, a2, 0, l0⟩ = true) (h1 : 1 ≤ a1) (h3 : a1 ≤ 3) (sp : ∀ b, b < l0.length → (bops l0 b).length ≤ 6) (h : SpEnd a0 a1 a2 l0 m) :
    ValAns (str (progText ⟨a0, a1, a2, 0, l0⟩)) (str (progText ⟨a0, a1, a2, a1, m⟩)) (str (hintText (spPings a1 l0.length))) 0 0 := by
  have hn := progGood_len g
  have hn' : 1 ≤ l0.length ∧ l0.length ≤ 6 := hn
  refine twin_spill (p := ⟨a0, a1, a2, 0, l0⟩) (q := ⟨a0, a1, a2, a1, m⟩) g (spill_good g h3 sp h) (spill_hint h1 h3 hn') rfl rfl rfl rfl rfl h.len (fun b hb => by have := sp b hb; show (bops l0 b).length ≤ 7; omega) ?_ ?_ (fun b hb => (h.each b hb).1) (by simp [spPings]) (fun b hb => (spPings_at a1 hb).1) ?_ ?_
  · exact (h.each 0 (by omega)).2
  · intro b h0 hb
    rw [(h.each b hb).2]
    unfold spOps gl
    rw [if_neg (by omega)]
  · rw [(spPings_at a1 (show 0 < l0.length by omega)).2, spP_id]
  · intro b h0 hb
    rw [(spPings_at a1 hb).2, spP_slot (by omega)]

end Go.Proofs.YtblhmeidbjigaabGreatDoor

/- twinkeep.Spilled: registers that are kept in slots whenever a block but the first begins. -/
set_option linter.unusedSimpArgs false
set_option linter.unusedVariables false
namespace Go.Proofs.YtblhmeidbjigaabGreatDoor
open Go.RowKit Go.Deep

/-- The loop's state. -/
structure SpSt (wc wr : World) (Qb : Nat) (a0 : Int) (R : Nat) (a2 : Int) (l0 : List BlockD) (qg n qc j k : Nat) (qv : List (BlockD × Value)) (hval : Value) (hv : List (PingD × Value)) : Prop where
  len : qv.length = n
  dat : ∀ b, b < n → bfin (bdat qv) b = bfin l0 b ∧ bops (bdat qv) b = if b < j then spOps R l0 b else bops l0 b
  hlen : hv.length = k
  hdt : hdat hv = spPings (R : Int) k
  rowQ : Row wr Qb 25 [.int .i64 a0, .int .i64 (R : Int), .int .i64 a2, .int .i64 (R : Int), .slice (some ⟨qg, 0, none⟩) n qc]
  rowH : Row wr (Qb + 1) 30 [hval]
  ownQ : OwnBlocks wr wc.heap.size (.slice (some ⟨qg, 0, none⟩) n qc) qv
  ownH : OwnHint wr (Qb + 2) hval hv
  below : Below wc.heap.size wc wr
  size : Qb + 2 ≤ wr.heap.size

/-- A block's list of operations is put down. -/
theorem SpSt.put {wc wo wr : World} {Qb : Nat} {a0 : Int} {R : Nat} {a2 : Int} {l0 : List BlockD} {qg n qc j k : Nat} {qv : List (BlockD × Value)} {hval : Value} {hv : List (PingD × Value)} (S : SpSt wc wo Qb a0 R a2 l0 qg n qc j k qv hval hv) (hj : j < n) (hbq : j < qv.length)
    (ke : Keep (fun _ => False) wo wr) (hqQ : qg < Qb) (hqB : wc.heap.size ≤ qg) {sv : Value} (lown : wr.ownsRow (wo.heap.size + 1) 36 4 sv (spOps R l0 j).length (opCells (spOps R l0 j))) :
    SpSt wc (wr.setCell ⟨qg, j * 5, none⟩ sv) Qb a0 R a2 l0 qg n qc (j + 1) k (qv.set j (⟨spOps R l0 j, qv[j].1.fin⟩, sv)) hval hv := by
  have hz := ke.size
  have hs := S.size
  have hsz := S.below.size
  have oQ := S.ownQ.apartFrom ke (fun g hg => hg.elim)
  have oH := S.ownH.apartFrom ke (fun g hg => hg.elim)
  have rQ := S.rowQ.kept ke (fun h => h)
  have rH := S.rowH.kept ke (fun h => h)
  refine ⟨by rw [List.length_set]; exact S.len, ?_, S.hlen, S.hdt, rQ.unset (a := ⟨qg, j * 5, none⟩) (by show Qb ≠ qg; omega) _, rH.unset (a := ⟨qg, j * 5, none⟩) (by show Qb + 1 ≠ qg; omega) _, ?_, oH.set (a := ⟨qg, j * 5, none⟩) (by show qg < Qb + 2; omega) _, ?_, by simp; omega⟩
  · intro b hb
    have hb' : j < (bdat qv).length := by rw [bdat_length]; exact hbq
    rw [bdat_set, bops_set hb', bfin_set hb']
    obtain ⟨d1, d2⟩ := S.dat b hb
    by_cases e : b = j
    · subst e
      rw [if_pos rfl, if_pos rfl, if_pos (by omega)]
      exact ⟨by rw [← d1, (bdat_get qv hbq).2], rfl⟩
    · rw [if_neg e, if_neg e, d2]
      refine ⟨d1, ?_⟩
      by_cases h : b < j
      · rw [if_pos h, if_pos (by omega)]
      · rw [if_neg h, if_neg (by omega)]
  · refine oQ.setOps hbq (owns_base lown (by omega)) ?_
    intro y hy g hg e
    have q1 := ((S.ownQ.each y hy).lt g hg).2
    have q2 := (lown.lt g e).1
    omega
  · exact (S.below.trans ((ke.toBelow (Nat.le_refl _) (fun g hg => hg.elim)).mono hsz)).setCell (p := ⟨qg, j * 5, none⟩) hqB _

/-- A pairing is put down. -/
theorem SpSt.ping {wc W w7 : World} {Qb : Nat} {a0 : Int} {R : Nat} {a2 : Int} {l0 : List BlockD} {qg n qc j k : Nat} {qv : List (BlockD × Value)} {hval : Value} {hv : List (PingD × Value)} (S : SpSt wc W Qb a0 R a2 l0 qg n qc j k qv hval hv) (hwQ : wc.heap.size ≤ Qb)
    {sv v' : Value} {o : Obj} (pown : W.ownsRow (Qb + 2) 38 2 sv (spP (R : Int) k R).length (pairCells (spP (R : Int) k R))) (hfree : ∀ y ∈ hv, ∀ g, y.2.ownBlock = some g → sv.ownBlock ≠ some g)
    (hgrow : (W.alloc o).grownBy w7 hval.ownBlock) (hown : w7.ownsRow (Qb + 2) 33 2 v' (hv.length + 1) (pingCells hv ++ [.int .i64 k, sv])) :
    SpSt wc (w7.setCell ⟨Qb + 1, 0, none⟩ v') Qb a0 R a2 l0 qg n qc j (k + 1) qv v' (hv ++ [(⟨k, spP (R : Int) k R⟩, sv)]) := by
  have hs := S.size
  have own7 : OwnHint w7 (Qb + 2) v' (hv ++ [(⟨k, spP (R : Int) k R⟩, sv)]) := (S.ownH.alloc _).snoc (x := ⟨k, spP (R : Int) k R⟩) (pown.alloc _) hfree hgrow hown
  have hb7 : Below (Qb + 2) W w7 := ((Below.refl (Qb + 2) W).alloc hs o).grown hgrow (by simp; omega) (fun g hg => (S.ownH.row.lt g hg).1)
  have hz7 := hb7.size
  have rQ7 := S.rowQ.below hb7 (by omega)
  have rH7 := S.rowH.below hb7 (by omega)
  have oQ7 : OwnBlocks w7 wc.heap.size (.slice (some ⟨qg, 0, none⟩) n qc) qv := (S.ownQ.alloc o).keptOther (S.ownH.row.alloc o) hgrow
  refine ⟨S.len, S.dat, by simp [S.hlen], by rw [hdat_snoc, S.hdt, spPings_snoc, Int.toNat_natCast], rQ7.unset (a := ⟨Qb + 1, 0, none⟩) (by show Qb ≠ Qb + 1; omega) _, rH7.set 0 v', oQ7.setHint rH7 v', own7.set (a := ⟨Qb + 1, 0, none⟩) (by show Qb + 1 < Qb + 2; omega) _, ?_, by simp; omega⟩
  exact (S.below.trans (hb7.mono (by omega))).setCell (p := ⟨Qb + 1, 0, none⟩) (by show wc.heap.size ≤ Qb + 1; omega) _

theorem opCells_append (l m : List OpD) : opCells (l ++ m) = opCells l ++ opCells m := by simp [opCells]

set_option maxRecDepth 100000 in
set_option maxHeartbeats 1500000 in
theorem spilled_cps (ao : Option Addr) (rn cap : Nat) (w : World) (hraw : RdInts w (.slice ao rn cap) rn) (htab : TabW w) (Post : Ending → World → Prop)
    (hp : ∀ w', Below w.heap.size w w' → Post (.returned (.bool true)) w') :
    Calls Tryz.prog 3 #[.slice ao rn cap] w Post := by
  obtain ⟨i0, ii, iz0, iz1, iz2⟩ := info_parts Tryz.infoPing
  obtain ⟨j0, ji, jz0, jz1, jz2⟩ := info_parts Tryz.infoPair
  obtain ⟨k0, ki, kz0, kz1, kz2⟩ := info_parts Tryz.infoOp
  have q1 := fun P' => built_cps ao rn cap 1 3 6 w (by omega) (by omega) (by omega) hraw P'
  have HP := Lib.hid hp
  clear hp
  go_enter Tryz.func3, Tryz.ntmps3
  go_wp2_with fail
  refine q1 _ ?_
  intro a0 a1 a2 v bv w1 gp hl1 hl2 hops ho hb1
  obtain ⟨R, rfl⟩ : ∃ R : Nat, a1 = (R : Int) := ⟨a1.toNat, by omega⟩
  obtain ⟨bo, bc, rfl⟩ := owns_slice ho.row
  have hlen6 : 1 ≤ bv.length ∧ bv.length ≤ 6 := by
    have := progGood_len gp
    simpa [bdat_length] using this
  obtain ⟨n, hn⟩ : ∃ n, n = bv.length := ⟨_, rfl⟩
  obtain ⟨l0, hl0⟩ : ∃ l0, l0 = bdat bv := ⟨_, rfl⟩
  have hln : n = l0.length := by rw [hl0, bdat_length, hn]
  have hrd := OwnBlocks.rd ho
  have sp := bdat_ops hops
  rw [← hl0] at hrd gp sp
  rw [← hn] at hrd hlen6 ⊢
  have HLN := Lib.hid hln
  obtain ⟨wc, hwc⟩ : ∃ x, x = w1.alloc (.cells #[.int .i64 a0, .int .i64 (R : Int), .int .i64 a2, .int .i64 0, .slice bo n bc] 25) := ⟨_, rfl⟩
  have b1c : Below w1.heap.size w1 wc := by subst hwc; exact (Below.refl _ _).alloc (Nat.le_refl _) _
  have rP : Row wc w1.heap.size 25 [.int .i64 a0, .int .i64 (R : Int), .int .i64 a2, .int .i64 0, .slice bo n bc] := by subst hwc; exact heap_alloc_new w1 _
  have bwc : Below w.heap.size w wc := hb1.trans (b1c.mono hb1.size)
  have rdc := hrd.keep b1c
  have q2 := fun P' => clone_cps a0 (R : Int) a2 0 bo bc l0 wc (by rw [← hln]; exact rdc) (by omega) (fun b hb => by have := sp b hb; omega) P'
  rw [← hln] at q2
  rw [hwc] at q2
  have HWC := Lib.hid hwc
  have HRP := Lib.hid rP
  have HBW := Lib.hid bwc
  have HRD := Lib.hid rdc
  have HG := Lib.hid gp
  have HSP := Lib.hid sp
  have HTB := Lib.hid htab
  clear q1 ho hops hb1 hrd hn hl0 hln b1c rP bwc rdc hwc gp sp htab hraw
  go_wp2_with fail
  refine q2 _ ?_
  intro v qv w2 hd hoq hb2
  obtain ⟨qo, qc, hv⟩ := owns_slice hoq.row
  have hqn : qv.length = n := by
    have := congrArg List.length hd.out
    rw [bdat_length] at this
    rw [this, ← HLN.out]
  rw [hqn] at hv
  subst hv
  rw [← HWC.out] at hb2 hoq
  obtain ⟨qg, hqo, hjunk⟩ := ownBlocks_at hoq (i := 0) (by omega)
  clear hjunk
  subst hqo
  have px1 : ∀ o, (w2.alloc o).cell? ⟨w1.heap.size, 1, none⟩ = some (.int .i64 (R : Int)) := fun o => ((HRP.out.keep hb2).alloc o).cell (i := 1) rfl
  have hwl : w1.heap.size < w2.heap.size := (HRP.out.keep hb2).lt
  obtain ⟨w4, hw4⟩ : ∃ x, x = (w2.alloc (.cells #[.int .i64 a0, .int .i64 (R : Int), .int .i64 a2, .int .i64 (R : Int), .slice (some ⟨qg, 0, none⟩) n qc] 25)).alloc (.cells #[.slice none 0 0] 30) := ⟨_, rfl⟩
  have b24 : Below w2.heap.size w2 w4 := by subst hw4; exact ((Below.refl _ _).alloc (Nat.le_refl _) _).alloc (by simp) _
  have S4 : SpSt wc w4 w2.heap.size a0 R a2 l0 qg n qc 0 0 qv (.slice none 0 0) [] :=
    ⟨hqn, fun b hb => by rw [hd.out]; exact ⟨rfl, rfl⟩, rfl, rfl, by subst hw4; exact Row.alloc (heap_alloc_new w2 _) _, by subst hw4; exact heap_alloc2_new w2 _ _, hoq.below b24 (Nat.le_refl _), ownHint_nil _ _, hb2.trans (b24.mono hb2.size), by subst hw4; simp⟩
  have hwcQ : wc.heap.size ≤ w2.heap.size := hb2.size
  have hqgQ : qg < w2.heap.size := by
    have := (hoq.row.lt qg rfl).2
    exact this
  have hqgB : wc.heap.size ≤ qg := (hoq.row.lt qg rfl).1
  have HS4 := Lib.hid S4
  have HW4 := Lib.hid hw4
  clear q2 hd hoq hb2 hqn hw4 b24 S4
  go_wp2
  rw [← HW4.out]
  clear HW4 px1
  have hwl2 : w1.heap.size < wc.heap.size := HRP.out.lt
  clear hwl
  generalize w2.heap.size = Qb at *
  go_loopw [6] (fun i wr => ∃ (j : Nat) (qv : List (BlockD × Value)) (hval : Value) (hv : List (PingD × Value)), j ≤ n ∧ i = .int .i64 j ∧ SpSt wc wr Qb a0 R a2 l0 qg n qc j j qv hval hv)
    (fun i _ => n - (intOf i).toNat)
  case atStart => exact ⟨0, qv, _, [], by omega, rfl, HS4.out⟩
  case round =>
    clear HS4
    rename World => wo
    obtain ⟨j, qv, hval, hv, hj, rfl, S⟩ := hrel
    have z4 := S.rowQ.cell (i := 4) rfl
    by_cases hlt : j < n
    · have rPo := HRP.out.keep S.below
      have rX0 : Row (wo.alloc (.cells #[.int .i64 j, .slice none 0 0] 33)) wo.heap.size 33 [.int .i64 j, .slice none 0 0] := heap_alloc_new wo _
      have ke0 : Keep (fun _ => False) wo (wo.alloc (.cells #[.int .i64 j, .slice none 0 0] 33)) := (Keep.refl _ _).alloc _
      have z0 : wo.heap.size + 1 ≤ (wo.alloc (.cells #[.int .i64 j, .slice none 0 0] 33)).heap.size := by simp
      have HS := Lib.hid S
      have hgl0 : gl j 0 = [] := by simp [gl, getOps]
      clear S
      go_wp2
      go_loopw [8, 9] (fun lv iv wi => ∃ (i : Nat) (sv : Value), (i : Int) ≤ (R : Int) ∧ iv = .int .i64 i ∧ Row wi wo.heap.size 33 [.int .i64 j, sv] ∧ wi.ownsRow (wo.heap.size + 1) 36 4 lv (gl j i).length (opCells (gl j i)) ∧ wi.ownsRow (wo.heap.size + 1) 38 2 sv i (pairCells (spP (R : Int) j i)) ∧
          Keep (fun _ => False) wo wi ∧ wo.heap.size + 1 ≤ wi.heap.size)
        (fun _ iv _ => R - (intOf iv).toNat)
      case atStart => exact ⟨0, _, by omega, rfl, rX0, by rw [hgl0]; exact World.ownsRow_nil _ _ _ _, World.ownsRow_nil _ _ _ _, ke0, z0⟩
      case round =>
        clear rX0 ke0 z0 z4 hgl0
        obtain ⟨i, sv, hi, rfl, rX, lown, pown, kei, hzi⟩ := hrel
        obtain ⟨so, sc, rfl⟩ := owns_slice pown
        obtain ⟨lo, lc, rfl⟩ := owns_slice lown
        have d1 := (rPo.kept kei (fun h => h)).cell (i := 1) rfl
        by_cases hia : (i : Int) < (R : Int)
        · have x1 := rX.cell (i := 1) rfl
          have HPS : Hid (spP (R : Int) j (i + 1) = spP (R : Int) j i ++ [⟨i, if j = 0 then (i : Int) else (R : Int) + i⟩]) := spP_snoc (R : Int) j i
          have hadd : IntKind.i64.wrap ((R : Int) + (i : Int)) = (R : Int) + (i : Int) := by rw [IntKind.wrap_i64]; omega
          by_cases hj0 : j = 0
          · have n1 : ¬ (0 < (j : Int)) := by omega
            rw [if_pos hj0] at HPS
            have HGL : Hid (gl j (i + 1) = gl j i) := by show _ = _; simp [gl, hj0]
            have HJ0 := Lib.hid hj0
            clear hj0
            go_wp2_with (at_builtin; refine wpList_append_own _ rfl _ _ 31 rfl (wo.heap.size + 1) 38 j0 (.agg #[.int .i64 0, .int .i64 0]) 2 16 Tryz.underlying31 ji jz0 jz1 jz2 rfl (by decide) _ _ _ rfl (pown.alloc _) ⟨wr.heap.size, 0, none⟩ 1 1 [.int .i64 i, .int .i64 ((i : Int))] rfl rfl ?c1 ?c2 ?c3 ?c4 ?c5 ?_)
            try (case c1 => simpa using two_new wr _ _ _)
            try (case c2 => exact pairs_one _ _)
            try (case c2 => exact ⟨rfl, rfl⟩)
            try (case c2 => rfl)
            case c3 => unfold maxLen; omega
            case c4 => omega
            case c5 => first | omega | (simp; omega)
            intro v' w5 hown5 hgrow5 _
            rw [← pairCells_snoc, ← HPS.out] at hown5
            have lown5 := owns_kept2 (lown.alloc _) (pown.alloc _) (by decide) hgrow5
            have hb5 := ((Below.refl (wo.heap.size + 1) wr).alloc hzi (.cells #[.int .i64 i, .int .i64 ((i : Int))] 38)).grown hgrow5 (by simp; omega) (fun g hg => (pown.lt g hg).1)
            have rX5 := rX.below hb5 (by omega)
            have ke5 := kei.below hb5 (by omega)
            have hz5 := hb5.size
            have y1 := rX5.cell (i := 1) rfl
            have yf := rX5.frozen 1
            obtain ⟨bo', bc', hv'⟩ := owns_slice hown5
            subst hv'
            have rX6 := rX5.set 1 (.slice bo' (i + 1) bc')
            have ke6 := ke5.setCell (p := ⟨wo.heap.size, 1, none⟩) (.inr (Nat.le_refl _)) (.slice bo' (i + 1) bc')
            have own6 := ownsRow_setCell_below hown5 (a := ⟨wo.heap.size, 1, none⟩) (by show wo.heap.size < wo.heap.size + 1; omega) (.slice bo' (i + 1) bc')
            have lown6 := ownsRow_setCell_below lown5 (a := ⟨wo.heap.size, 1, none⟩) (by show wo.heap.size < wo.heap.size + 1; omega) (.slice bo' (i + 1) bc')
            clear rX5 ke5 hown5 lown5 hgrow5 hb5 rX pown lown kei d1
            go_wp2
            go_roundw
            case rel => exact ⟨i + 1, _, by omega, by go_num, rX6, by rw [HGL.out]; exact lown6, own6, ke6, by simp; omega⟩
            case measure => simp [intOf]; omega
          · have n1 : 0 < (j : Int) := by omega
            rw [if_neg hj0] at HPS
            have HGL : Hid (gl j (i + 1) = gl j i ++ [⟨15, i, i, 0⟩]) := by show _ = _; simp [gl, hj0, getOps_snoc]
            have hgll : (gl j i).length ≤ 3 := by simp [gl, hj0, getOps]; omega
            have hgl2 : (gl j (i + 1)).length = (gl j i).length + 1 := by rw [HGL.out]; simp
            have HGL2 := Lib.hid hgl2
            clear hgl2
            generalize (gl j i).length = gn at *
            go_wp2_with (at_builtin; refine wpList_append_own _ rfl _ _ 34 rfl (wo.heap.size + 1) 36 k0 (.agg #[.int .i64 0, .int .i64 0, .int .i64 0, .int .i64 0]) 4 32 Tryz.underlying34 ki kz0 kz1 kz2 rfl (by decide) _ _ _ rfl (lown.alloc _) ⟨wr.heap.size, 0, none⟩ 1 1 [.int .i64 15, .int .i64 i, .int .i64 i, .int .i64 0] rfl rfl ?e1 four_one ?e3 ?e4 ?e5 ?_)
            try (case e1 => simpa using four_new wr _ _ _ _ _)
            case e3 => unfold maxLen; omega
            case e4 => omega
            case e5 => first | omega | (simp; omega)
            intro v1 w3 hown3 hgrow3 _
            rw [← opCells_snoc, ← HGL.out] at hown3
            have pownB := owns_kept2 (pown.alloc _) (lown.alloc _) (by decide) hgrow3
            have hb3 := ((Below.refl (wo.heap.size + 1) wr).alloc hzi (.cells #[.int .i64 15, .int .i64 i, .int .i64 i, .int .i64 0] 36)).grown hgrow3 (by simp; omega) (fun g hg => (lown.lt g hg).1)
            have rXB := rX.below hb3 (by omega)
            have keiB := kei.below hb3 (by omega)
            have hziB : wo.heap.size + 1 ≤ w3.heap.size := Nat.le_trans hzi hb3.size
            have lownB := hown3
            obtain ⟨lo', lc', hv1⟩ := owns_slice hown3
            subst hv1
            have x1 := rXB.cell (i := 1) rfl
            clear hown3 hgrow3 hb3 rX kei hzi lown pown x1
            have x1 := rXB.cell (i := 1) rfl
            go_wp2_with (at_builtin; refine wpList_append_own _ rfl _ _ 31 rfl (wo.heap.size + 1) 38 j0 (.agg #[.int .i64 0, .int .i64 0]) 2 16 Tryz.underlying31 ji jz0 jz1 jz2 rfl (by decide) _ _ _ rfl (pownB.alloc _) ⟨w3.heap.size, 0, none⟩ 1 1 [.int .i64 i, .int .i64 ((R : Int) + (i : Int))] rfl rfl ?c1B ?c2B ?c3B ?c4B ?c5B ?_)
            try (case c1B => simpa using two_new w3 _ _ _)
            try (case c2B => exact pairs_one _ _)
            try (case c2B => exact ⟨rfl, rfl⟩)
            try (case c2B => rfl)
            case c3B => unfold maxLen; omega
            case c4B => omega
            case c5B => first | omega | (simp; omega)
            intro v' w5 hown5 hgrow5 _
            rw [← pairCells_snoc, ← HPS.out] at hown5
            have lown5 := owns_kept2 (lownB.alloc _) (pownB.alloc _) (by decide) hgrow5
            have hb5 := ((Below.refl (wo.heap.size + 1) w3).alloc hziB (.cells #[.int .i64 i, .int .i64 ((R : Int) + (i : Int))] 38)).grown hgrow5 (by simp; omega) (fun g hg => (pownB.lt g hg).1)
            have rX5 := rXB.below hb5 (by omega)
            have ke5 := keiB.below hb5 (by omega)
            have hz5 := hb5.size
            have y1 := rX5.cell (i := 1) rfl
            have yf := rX5.frozen 1
            obtain ⟨bo', bc', hv'⟩ := owns_slice hown5
            subst hv'
            have rX6 := rX5.set 1 (.slice bo' (i + 1) bc')
            have ke6 := ke5.setCell (p := ⟨wo.heap.size, 1, none⟩) (.inr (Nat.le_refl _)) (.slice bo' (i + 1) bc')
            have own6 := ownsRow_setCell_below hown5 (a := ⟨wo.heap.size, 1, none⟩) (by show wo.heap.size < wo.heap.size + 1; omega) (.slice bo' (i + 1) bc')
            have lown6 := ownsRow_setCell_below lown5 (a := ⟨wo.heap.size, 1, none⟩) (by show wo.heap.size < wo.heap.size + 1; omega) (.slice bo' (i + 1) bc')
            clear rX5 ke5 hown5 lown5 hgrow5 hb5 rXB pownB lownB keiB d1
            go_wp2
            go_roundw
            case rel => exact ⟨i + 1, _, by omega, by go_num, rX6, by rw [HGL2.out]; exact lown6, own6, ke6, by simp; omega⟩
            case measure => simp [intOf]; omega
        · have hiR : R = i := by omega
          subst hiR
          have hbq : j < qv.length := by rw [HS.out.len]; exact hlt
          have oQ2 := HS.out.ownQ.apartFrom kei (fun g hg => hg.elim)
          have rQ2 := HS.out.rowQ.kept kei (fun h => h)
          obtain ⟨qg', eqg, _, cq0, _⟩ := ownBlocks_at oQ2 hbq
          simp only [Option.some.injEq, Addr.mk.injEq, and_true] at eqg
          subst eqg
          have hrow := oQ2.each _ (List.getElem_mem hbq)
          obtain ⟨ops, hopse⟩ : ∃ ops, ops = qv[j].1.ops := ⟨_, rfl⟩
          have HOPS : Hid (ops = bops l0 j) := by
            show _ = _
            have h1 := (HS.out.dat j hlt).2
            rw [if_neg (by omega), (bdat_get qv hbq).1] at h1
            rw [hopse]; exact h1
          have hopl : ops.length ≤ 6 := by rw [HOPS.out]; have := HSP.out j (by rw [← HLN.out]; exact hlt); omega
          have hglr : (gl j R).length ≤ 3 := by unfold gl; split <;> simp [getOps]; omega
          have HLL : Hid ((gl j R).length ≤ 3 ∧ ops.length ≤ 6) := ⟨hglr, hopl⟩
          have hput0 : gl j R ++ (ops ++ putOps 0) = gl j R ++ ops := by simp [putOps]
          rw [← hopse] at hrow
          obtain ⟨uo, uc, hsv⟩ := owns_slice hrow
          rw [hsv] at cq0 hrow
          have z4 := rQ2.cell (i := 4) rfl
          have hcapl := owns_le lown
          have hji : (0 : Int) ≤ (j : Int) := by omega
          have hjn : (j : Int) < (n : Int) := by omega
          obtain ⟨on, hon⟩ : ∃ on, on = ops.length := ⟨_, rfl⟩
          have HON := Lib.hid hon
          rw [← hon] at cq0 hrow
          clear hopse hon hsv
          have hsrc := owns_src hrow (ops_oneCell ops)
          have hglr' : (gl j R).length + on ≤ 9 := by rw [HON.out]; omega
          go_wp2_with (at_builtin; refine wpList_append_any _ rfl _ _ 34 rfl (wo.heap.size + 1) 36 k0 (.agg #[.int .i64 0, .int .i64 0, .int .i64 0, .int .i64 0]) 4 32 Tryz.underlying34 ki kz0 kz1 kz2 rfl (by decide) _ _ _ rfl lown _ _ _ rfl hsrc ?g3 ?g4 ?g5 ?_)
          try (case g3 => unfold maxLen; omega)
          case g4 => omega
          try (case g5 => exact hzi)
          intro v1 w3 hown3 hgrow3
          have pown3 := owns_kept2 pown lown (by decide) hgrow3
          have hb3 := (Below.refl (wo.heap.size + 1) wr).grown hgrow3 hzi (fun g hg => (lown.lt g hg).1)
          have rX3 := rX.below hb3 (by omega)
          have ke3 := kei.below hb3 (by omega)
          have hz3 : wo.heap.size + 1 ≤ w3.heap.size := Nat.le_trans hzi hb3.size
          have lown3 : w3.ownsRow (wo.heap.size + 1) 36 4 v1 (gl j R ++ (ops ++ putOps 0)).length (opCells (gl j R ++ (ops ++ putOps 0))) := by
            rw [hput0, opCells_append, List.length_append, ← HON.out]; exact hown3
          clear hsrc hown3 hgrow3 hb3 rX kei hzi lown pown hrow cq0 z4 oQ2 rQ2 hput0 d1 hcapl
          obtain ⟨lo', lc', hv1⟩ := owns_slice lown3
          obtain ⟨g0, hg0⟩ : ∃ g0, g0 = (gl j R ++ (ops ++ putOps 0)).length := ⟨_, rfl⟩
          rw [← hg0] at hv1
          clear hg0
          subst hv1
          go_wp2
          go_loopw [8, 11] (fun lv iv wi => ∃ (i : Nat), (i : Int) ≤ (R : Int) ∧ iv = .int .i64 i ∧ Row wi wo.heap.size 33 [.int .i64 j, .slice so R sc] ∧ wi.ownsRow (wo.heap.size + 1) 36 4 lv (gl j R ++ (ops ++ putOps i)).length (opCells (gl j R ++ (ops ++ putOps i))) ∧ wi.ownsRow (wo.heap.size + 1) 38 2 (.slice so R sc) R (pairCells (spP (R : Int) j R)) ∧
              Keep (fun _ => False) wo wi ∧ wo.heap.size + 1 ≤ wi.heap.size)
            (fun _ iv _ => R - (intOf iv).toNat)
          case atStart => exact ⟨0, by omega, rfl, rX3, lown3, pown3, ke3, hz3⟩
          case round =>
            clear rX3 lown3 pown3 ke3 hz3
            rename World => wp
            obtain ⟨i, hi, rfl, rX, lown, pown, kei, hzi⟩ := hrel
            obtain ⟨lo, lc, rfl⟩ := owns_slice lown
            have d1 := (rPo.kept kei (fun h => h)).cell (i := 1) rfl
            by_cases hia : (i : Int) < (R : Int)
            · have HPL : Hid (gl j R ++ (ops ++ putOps (i + 1)) = gl j R ++ (ops ++ putOps i) ++ [⟨14, i, i, 0⟩]) := by show _ = _; simp [putOps_snoc]
              have hpl : (gl j R ++ (ops ++ putOps i)).length ≤ 12 := by have := HLL.out; simp [putOps]; omega
              have HPL2 : Hid ((gl j R ++ (ops ++ putOps (i + 1))).length = (gl j R ++ (ops ++ putOps i)).length + 1) := by show _ = _; rw [HPL.out]; simp; omega
              generalize (gl j R ++ (ops ++ putOps i)).length = gn at *
              go_wp2_with (at_builtin; refine wpList_append_own _ rfl _ _ 34 rfl (wo.heap.size + 1) 36 k0 (.agg #[.int .i64 0, .int .i64 0, .int .i64 0, .int .i64 0]) 4 32 Tryz.underlying34 ki kz0 kz1 kz2 rfl (by decide) _ _ _ rfl (lown.alloc _) ⟨wp.heap.size, 0, none⟩ 1 1 [.int .i64 14, .int .i64 i, .int .i64 i, .int .i64 0] rfl rfl ?h1 four_one ?h3 ?h4 ?h5 ?_)
              try (case h1 => simpa using four_new wp _ _ _ _ _)
              case h3 => unfold maxLen; omega
              case h4 => omega
              case h5 => first | omega | (simp; omega)
              intro v5 w5 hown5 hgrow5 _
              rw [← opCells_snoc, ← HPL.out] at hown5
              have pown5 := owns_kept2 (pown.alloc _) (lown.alloc _) (by decide) hgrow5
              have hb5 := ((Below.refl (wo.heap.size + 1) wp).alloc hzi (.cells #[.int .i64 14, .int .i64 i, .int .i64 i, .int .i64 0] 36)).grown hgrow5 (by simp; omega) (fun g hg => (lown.lt g hg).1)
              have rX5 := rX.below hb5 (by omega)
              have ke5 := kei.below hb5 (by omega)
              have hz5 : wo.heap.size + 1 ≤ w5.heap.size := Nat.le_trans hzi hb5.size
              obtain ⟨lo5, lc5, hv5⟩ := owns_slice hown5
              subst hv5
              clear hgrow5 hb5 rX kei hzi lown pown d1
              go_wp2
              go_roundw
              case rel =>
                exact ⟨i + 1, by omega, by go_num, rX5, by rw [HPL2.out]; exact hown5, pown5, ke5, hz5⟩
              case measure => simp [intOf]; omega
            · have hiR : R = i := by omega
              subst hiR
              have HSO : Hid (gl j R ++ (ops ++ putOps R) = spOps R l0 j) := by show _ = _; rw [HOPS.out]; rfl
              rw [HSO.out] at lown
              obtain ⟨gn, hgn⟩ : ∃ gn, gn = (spOps R l0 j).length := ⟨_, rfl⟩
              have HGN := Lib.hid hgn
              rw [HSO.out, ← hgn]
              have S1 := HS.out.put hlt hbq kei hqgQ hqgB lown
              rw [← hgn] at S1
              have oQ2 := HS.out.ownQ.apartFrom kei (fun g hg => hg.elim)
              have rQ2 := HS.out.rowQ.kept kei (fun h => h)
              obtain ⟨qg', eqg, _, cq0, _, _, _, _, cqf⟩ := ownBlocks_at oQ2 hbq
              simp only [Option.some.injEq, Addr.mk.injEq, and_true] at eqg
              subst eqg
              have z4 := rQ2.cell (i := 4) rfl
              have cqf0 := cqf (j * 5)
              have hQwo : Qb + 2 ≤ wo.heap.size := HS.out.size
              have rX1 := rX.unset (a := ⟨qg, j * 5, none⟩) (by show wo.heap.size ≠ qg; omega) (.slice lo gn lc)
              have pown1 := ownsRow_setCell_below (owns_base pown (show Qb + 2 ≤ _ by omega)) (a := ⟨qg, j * 5, none⟩) (by show qg < Qb + 2; omega) (.slice lo gn lc)
              obtain ⟨hho, hhc, rfl⟩ := owns_slice S1.ownH.row
              have hfree : ∀ y ∈ hv, ∀ g, y.2.ownBlock = some g → (Value.slice so R sc).ownBlock ≠ some g := by
                intro y hy g hg e
                have q1 := ((HS.out.ownH.each y hy).lt g hg).2
                have q2 := (pown.lt g e).1
                omega
              have x0' := rX1.cell (i := 0) rfl
              have x1' := rX1.cell (i := 1) rfl
              have h0' := S1.rowH.cell (i := 0) rfl
              have hhl := S1.hlen
              have hhl6 : hv.length ≤ 6 := by rw [hhl]; omega
              have HHL := Lib.hid hhl
              obtain ⟨W1, hW1⟩ : ∃ x, x = wp.setCell ⟨qg, j * 5, none⟩ (.slice lo gn lc) := ⟨_, rfl⟩
              have hz1 : Qb + 2 ≤ W1.heap.size := by rw [hW1]; exact S1.size
              have ownr := S1.ownH.row
              have pl1 : (spP (R : Int) j R).length = R := spP_length _ _ _
              have pown1' : W1.ownsRow (Qb + 2) 38 2 (.slice so R sc) (spP (R : Int) j R).length (pairCells (spP (R : Int) j R)) := by rw [hW1, pl1]; exact pown1
              rw [← hW1] at S1 ownr
              have HS1 := Lib.hid S1
              have HW1 := Lib.hid hW1
              clear hgn S1 hhl pl1 pown1 rX rX1 kei lown pown oQ2 rQ2 cqf HS hW1
              go_wp2_with (at_builtin; rw [← HW1.out]; refine wpList_append_own _ rfl _ _ 28 rfl (Qb + 2) 33 i0 (.agg #[.int .i64 0, .slice none 0 0]) 2 32 Tryz.underlying28 ii iz0 iz1 iz2 rfl (by decide) _ _ _ rfl (ownr.alloc _) ⟨W1.heap.size, 0, none⟩ 1 1 [.int .i64 j, .slice so R sc] ?k0 rfl ?k1 ?k2 ?k3 ?k4 ?k5 ?_)
              case k3 => unfold maxLen; omega
              case k4 => omega
              case k0 => rw [HW1.out]; simp
              case k2 => exact ⟨rfl, rfl⟩
              case k5 => first | omega | (simp; omega)
              intro v7 w7 hown7 hgrow7 _
              have S7 := HS1.out.ping hwcQ pown1' hfree hgrow7 hown7
              have rH7 := S7.rowH
              obtain ⟨ho7, hc7, hv7⟩ := owns_slice hown7
              have hb7 : Below (Qb + 2) W1 w7 := ((Below.refl (Qb + 2) W1).alloc hz1 _).grown hgrow7 (by simp; omega) (fun g hg => (ownr.lt g hg).1)
              have rH6 := HS1.out.rowH.below hb7 (by omega)
              have y0 := rH6.cell (i := 0) rfl
              have yf := rH6.frozen 0
              subst hv7
              have HS7 := Lib.hid S7
              clear S7 rH7 hown7 hgrow7 hb7 rH6 HS1 HW1 pown1' hfree ownr x0' x1' h0' z4 cq0 cqf0 d1
              go_wp2
              go_roundw
              case rel => exact ⟨j + 1, _, _, _, by omega, by go_num, HS7.out⟩
              case measure => simp [intOf]; omega
    · have hjn : j = n := by omega
      subst hjn
      have rP := HRP.out.keep S.below
      have rdp := HRD.out.keep S.below
      have rdq := OwnBlocks.rd S.ownQ
      have rdh := OwnHint.rd S.ownH
      obtain ⟨hho, hhc, rfl⟩ := owns_slice S.ownH.row
      rw [S.hdt] at rdh
      have bw : Below w.heap.size w wo := HBW.out.trans (S.below.mono HBW.out.size)
      have hE : SpEnd a0 (R : Int) a2 l0 (bdat qv) := ⟨by rw [bdat_length, S.len]; exact HLN.out, fun b hb => by
        obtain ⟨d1, d2⟩ := S.dat b (by rw [HLN.out]; exact hb)
        rw [if_pos (by rw [HLN.out]; exact hb)] at d2
        exact ⟨d1, by rw [Int.toNat_natCast]; exact d2⟩⟩
      have h3 : (R : Int) ≤ 3 := by omega
      have h1 : 1 ≤ (R : Int) := by omega
      have sp6 : ∀ b, b < l0.length → (bops l0 b).length ≤ 6 := fun b hb => by have := HSP.out b hb; omega
      have HT := spill_twin HG.out h1 h3 sp6 hE
      have HGH : goodHint (spPings (R : Int) j) = true := spill_hint h1 h3 hlen6
      have HGQ := spill_good HG.out h3 sp6 hE
      rw [← HLN.out] at HT
      have q7 := fun P' => accepted_cps ⟨a0, R, a2, 0, l0⟩ ⟨a0, R, a2, R, bdat qv⟩ _ (.slice bo j bc) (.slice (some ⟨qg, 0, none⟩) j qc) (.slice hho hv.length hhc) wo rdp rdq rdh HG.out HGQ HGH (HTB.out.keep bw) HT P'
      have u0 := rP.cell (i := 0) rfl
      have v0 := S.rowQ.cell (i := 0) rfl
      have u1 := rP.cell (i := 1) rfl
      have v1 := S.rowQ.cell (i := 1) rfl
      have u2 := rP.cell (i := 2) rfl
      have v2 := S.rowQ.cell (i := 2) rfl
      have u3 := rP.cell (i := 3) rfl
      have v3 := S.rowQ.cell (i := 3) rfl
      have u4 := rP.cell (i := 4) rfl
      have v4 := S.rowQ.cell (i := 4) rfl
      have hh0 := S.rowH.cell (i := 0) rfl
      have HB := Lib.hid bw
      clear S rP rdp rdq rdh bw hE HT HGH HGQ
      go_wp2_with fail
      refine q7 _ ?_
      intro w8 hb8
      have HF := Lib.hid (HP.out w8 (HB.out.trans (hb8.mono HB.out.size)))
      clear q7 hb8 HB HP hh0 u0 v0 u1 v1 u2 v2 u3 v3 u4 v4
      go_wp2
      exact HF.out

end Go.Proofs.YtblhmeidbjigaabGreatDoor
