/- Two twins, two inputs: what is let out; pure. -/
import Derived.Test.YtblhmeidbjigaabGreatDoorRows
import Derived.WalkKit
import Derived.WalkSpells
import Derived.WalkLawsBesides
import Derived.Laws.BytesArg
import Derived.Deep.QuietTactic
import Derived.BigQuiet
import Derived.Deep.RegionHeld3
import Derived.Lib.ItoaNum
import Derived.Lib.ItoaLen
import Derived.OpenShut
import Derived.Maps.AppendAt
import Derived.StillTailTactics
import Derived.Deep.RegionLaw
import Derived.Deep.AppendLies
import Derived.Shelf.Strconv.Itoa3
import Derived.Shelf.Lay
import Derived.Ground.NamesProg
import Derived.Lib.SmallJoins
import Derived.Lib.Hide
import Derived.Test.YtblhmeidbjigaabGreatDoorMRunToFPureQuiet

set_option linter.unusedSimpArgs false
set_option linter.unusedVariables false
noncomputable section
namespace Go.Proofs.YtblhmeidbjigaabGreatDoor
open Go.RowKit Classical

/-- Source and target at a block of the target, both underway. -/
structure Under2 (p q : ProgD) (h : List PingD) (b : Nat) (s t : RunD) : Prop where
  lt : b < q.blocks.length
  zs : Sized s p.regs p.data 0
  zt : Sized t q.regs q.data q.slots
  ws : WideR s
  wt : WideR t
  ts : s.trap = 0
  tt : t.trap = 0
  al : Alike (hpairs h b) q.regs s t

/-- A pair of blocks goes on with a pair of blocks. -/
theorem next_alike {p q : ProgD} {h : List PingD} (gp : progGood p = true) (gq : progGood q = true) (hp0 : p.slots = 0) (hd : p.data = q.data) (hok : ∀ b, b < q.blocks.length → BlockOk p q h b) {b : Nat} {s t : RunD} (u : Under2 p q h b s t)
    (h0 : (doOps (srcOps p h b) s).trap = 0) (h3 : bek p.blocks (hsrc h b).toNat ≠ 3) :
    hsrc h (goesTo (doOps (bops q.blocks b) t) (bfin q.blocks b)).toNat = goesTo (doOps (srcOps p h b) s) (bfin p.blocks (hsrc h b).toNat) ∧ 0 ≤ goesTo (doOps (bops q.blocks b) t) (bfin q.blocks b) ∧
      Under2 p q h (goesTo (doOps (bops q.blocks b) t) (bfin q.blocks b)).toNat (goesOn (doOps (srcOps p h b) s) (bfin p.blocks (hsrc h b).toNat)) (goesOn (doOps (bops q.blocks b) t) (bfin q.blocks b)) ∧ bek q.blocks b ≠ 3 ∧
      ((srcEnd p h b).kind = 2 → (bfin p.blocks (hsrc h b).toNat).kind = 2 ∧ (rg (doOps (srcOps p h b) s).regs (bfin p.blocks (hsrc h b).toNat).r = rg (doOps (bops q.blocks b) t).regs (bfin q.blocks b).r)) ∧
      (∀ n, tgtT q h b (bfin q.blocks b).r = tnum n → (bfin q.blocks b).kind = 2 → rg (doOps (bops q.blocks b) t).regs (bfin q.blocks b).r = n) := by
  simp only [progGood, Bool.and_eq_true, decide_eq_true_eq] at gp gq
  obtain ⟨⟨⟨⟨⟨p1, p2⟩, p3⟩, p4⟩, p5⟩, p6⟩ := gp
  obtain ⟨⟨⟨⟨⟨q1, q2⟩, q3⟩, q4⟩, q5⟩, q6⟩ := gq
  rw [hp0] at p6
  obtain ⟨hb, hzs, hzt, hws, hwt, ts, tt, ha⟩ := u
  have ok := hok b hb
  obtain ⟨gs12, gsops, gsend⟩ := blocksGood_at p6 (k := (hsrc h b).toNat) (by have := ok.src; omega)
  obtain ⟨gt12, gtops, gtend⟩ := blocksGood_at q6 hb
  have hpb : ∀ x ∈ hpairs h b, 0 ≤ x.reg ∧ x.reg ≤ 1000 := fun x hx => by have := ok.pairs x hx; omega
  have mk := ok.marks
  rw [hd] at mk hzs
  obtain ⟨htr, hrest⟩ := alike_block hpb (by omega) (by omega) (by omega) hzs hzt hws hwt ts tt ha (os := srcOps p h b) (ot := bops q.blocks b) gsops gtops mk
  obtain ⟨hreg, hcell, hnS, hnT⟩ := hrest h0
  have hcells := hcell ok.cells
  have h0t : (doOps (bops q.blocks b) t).trap = 0 := by rw [← htr]; exact h0
  have ks := end_kind gsend
  have kt := end_kind gtend
  have k3s := (effT_kind (t := srcT p h b (bfin p.blocks (hsrc h b).toNat).r) ks)
  have k3t := (effT_kind (t := tgtT q h b (bfin q.blocks b).r) kt)
  have hkind := ok.kind
  have h3t : bek q.blocks b ≠ 3 := fun c => h3 (k3s.1.1 (by show (srcEnd p h b).kind = 3; rw [hkind]; exact k3t.1.2 c))
  have h3s : (srcEnd p h b).kind ≠ 3 := fun c => h3 (k3s.1.1 c)
  have gS := goes_eff (s := doOps (srcOps p h b) s) (e := bfin p.blocks (hsrc h b).toNat) (t := srcT p h b (bfin p.blocks (hsrc h b).toNat).r) (fun hk2 n hn => by
    have r1 := end_reg gsend (.inl hk2)
    exact hnS _ n r1.1 r1.2 hn) h3 ks
  have gT := goes_eff (s := doOps (bops q.blocks b) t) (e := bfin q.blocks b) (t := tgtT q h b (bfin q.blocks b).r) (fun hk2 n hn => by
    have r1 := end_reg gtend (.inl hk2)
    exact hnT _ n r1.1 r1.2 hn) h3t kt
  have zs := (hzs.doOps (srcOps p h b)).on (bfin p.blocks (hsrc h b).toNat)
  have zt := (hzt.doOps (bops q.blocks b)).on (bfin q.blocks b)
  have ws := (hws.doOps (show p.regs ≤ 100 by omega) (show (0 : Int) ≤ 100 by omega) (srcOps p h b) gsops).on (bfin p.blocks (hsrc h b).toNat)
  have wt := (hwt.doOps (show q.regs ≤ 100 by omega) (show q.slots ≤ 100 by omega) (bops q.blocks b) gtops).on (bfin q.blocks b)
  obtain ⟨t0, t1⟩ := goesTo_in (s := doOps (bops q.blocks b) t) gtend h3t
  have fr : ∀ (u : RunD) (e : EndD), (goesOn u e).regs = u.regs ∧ (goesOn u e).slots = u.slots ∧ (goesOn u e).cells = u.cells := by
    intro u e; unfold goesOn; split <;> exact ⟨rfl, rfl, rfl⟩
  have two : (srcEnd p h b).kind = 2 → (bfin p.blocks (hsrc h b).toNat).kind = 2 ∧ (rg (doOps (srcOps p h b) s).regs (bfin p.blocks (hsrc h b).toNat).r = rg (doOps (bops q.blocks b) t).regs (bfin q.blocks b).r) := by
    intro a1
    have c1 : (tgtEnd q h b).kind = 2 := by rw [← hkind]; exact a1
    have es : srcEnd p h b = bfin p.blocks (hsrc h b).toNat := by
      rcases gS with ⟨x1, _⟩ | ⟨_, x2, _⟩
      · exfalso; have : (srcEnd p h b).kind = 1 := x1; omega
      · exact x2
    have et : tgtEnd q h b = bfin q.blocks b := by
      rcases gT with ⟨x1, _⟩ | ⟨_, x2, _⟩
      · exfalso; have : (tgtEnd q h b).kind = 1 := x1; omega
      · exact x2
    have k2s : (bfin p.blocks (hsrc h b).toNat).kind = 2 := by rw [← es]; exact a1
    have k2t : (bfin q.blocks b).kind = 2 := by rw [← et]; exact c1
    have htm := ok.term (.inl a1)
    rw [es, et] at htm
    have r1 := end_reg gsend (.inl k2s)
    have r2 := end_reg gtend (.inl k2t)
    have hv := hreg _ (bfin q.blocks b).r r1.1 r1.2 r2.1 (by omega) htm
    exact ⟨k2s, by rw [hv]; simp [placeV, r2.2]⟩
  have edge : edgeOk p q h b (goesTo (doOps (srcOps p h b) s) (bfin p.blocks (hsrc h b).toNat)) (goesTo (doOps (bops q.blocks b) t) (bfin q.blocks b)) := by
    rcases gS with ⟨a1, a2⟩ | ⟨a1, a2, a3⟩
    · rcases gT with ⟨c1, c2⟩ | ⟨c1, c2, c3⟩
      · rw [a2, c2]; exact ok.edgeX h3s
      · exfalso
        have x1 : (srcEnd p h b).kind = 1 := a1
        have x2 : (tgtEnd q h b).kind = 2 := c1
        omega
    · rcases gT with ⟨c1, c2⟩ | ⟨c1, c2, c3⟩
      · exfalso
        have x1 : (srcEnd p h b).kind = 2 := a1
        have x2 : (tgtEnd q h b).kind = 1 := c1
        omega
      · have hv2 := (two a1).2
        have es : srcEnd p h b = bfin p.blocks (hsrc h b).toNat := a2
        have et : tgtEnd q h b = bfin q.blocks b := c2
        rw [hv2] at a3
        have ex := ok.edgeX h3s
        have ey := ok.edgeY a1
        rw [es, et] at ex ey
        rw [a3, c3]
        by_cases hz : rg (doOps (bops q.blocks b) t).regs (bfin q.blocks b).r = 0
        · rw [if_pos hz, if_pos hz]; exact ey
        · rw [if_neg hz, if_neg hz]; exact ex
  obtain ⟨e1, e2⟩ := edge
  have hlt : (goesTo (doOps (bops q.blocks b) t) (bfin q.blocks b)).toNat < q.blocks.length := by omega
  have okn := hok _ hlt
  refine ⟨e1, t0, ⟨hlt, by rw [hd]; exact zs, zt, ws, wt, by rw [goesOn_trap]; exact h0, by rw [goesOn_trap]; exact h0t, fun x hx => ?_, ?_⟩, h3t, two, fun n hn hk2 => ?_⟩
  · have hx2 := okn.pairs x hx
    have := hreg x.reg x.place hx2.1 hx2.2.1 hx2.2.2.1 hx2.2.2.2 (e2 x hx)
    rw [(fr _ _).1, this]
    unfold placeV
    rw [(fr _ _).1, (fr _ _).2.1]
  · rw [(fr _ _).2.2, (fr _ _).2.2]; exact hcells
  · have r1 := end_reg gtend (.inl hk2)
    exact hnT _ n r1.1 r1.2 hn

end Go.Proofs.YtblhmeidbjigaabGreatDoor

/- P14: what twins let out; pure. -/
set_option linter.unusedSimpArgs false
set_option linter.unusedVariables false
noncomputable section
namespace Go.Proofs.YtblhmeidbjigaabGreatDoor
open Go.RowKit Classical

/-- The raw marks of a block of the source, and of a block of the target. -/
def srcRaw (p : ProgD) (h : List PingD) (b : Nat) : List MD := rawMarks p.regs 0 (plainNames p.regs 0) (srcOps p h b) (srcOps p h b).length
def tgtRaw (q : ProgD) (h : List PingD) (b : Nat) : List MD := rawMarks q.regs q.slots (namesOf (hpairs h b) (q.regs + q.slots).toNat) (bops q.blocks b) (bops q.blocks b).length

/-- What a pair of blocks lets out, and its traps, by the marks. -/
theorem under_out {p q : ProgD} {h : List PingD} (gp : progGood p = true) (gq : progGood q = true) (hp0 : p.slots = 0) (hd : p.data = q.data) (hok : ∀ b, b < q.blocks.length → BlockOk p q h b) {b : Nat} {s t : RunD} (u : Under2 p q h b s t) :
    ∃ r : EnvD, (doOps (srcOps p h b) s).leak = s.leak ++ outM r q.data (srcRaw p h b) ∧ (doOps (bops q.blocks b) t).leak = t.leak ++ outM r q.data (tgtRaw q h b) ∧
      (doOps (srcOps p h b) s).trap = firstFail r q.data (srcRaw p h b) ∧ (doOps (bops q.blocks b) t).trap = firstFail r q.data (tgtRaw q h b) := by
  simp only [progGood, Bool.and_eq_true, decide_eq_true_eq] at gp gq
  obtain ⟨⟨⟨⟨⟨p1, p2⟩, p3⟩, p4⟩, p5⟩, p6⟩ := gp
  obtain ⟨⟨⟨⟨⟨q1, q2⟩, q3⟩, q4⟩, q5⟩, q6⟩ := gq
  rw [hp0] at p6
  obtain ⟨hb, hzs, hzt, hws, hwt, ts, tt, ha⟩ := u
  have ok := hok b hb
  obtain ⟨gs12, gsops, gsend⟩ := blocksGood_at p6 (k := (hsrc h b).toNat) (by have := ok.src; omega)
  obtain ⟨gt12, gtops, gtend⟩ := blocksGood_at q6 hb
  have hpb : ∀ x ∈ hpairs h b, 0 ≤ x.reg ∧ x.reg ≤ 1000 := fun x hx => by have := ok.pairs x hx; omega
  rw [hd] at hzs
  have hw := envOf_wide (regsT := q.regs) hws hwt
  have hS := holds_source q.regs (t := t) hzs (srcOps p h b)
  have hT := holds_target (fun x hx => (hpb x hx).1) hzt ha (bops q.blocks b)
  have nS : ∀ x ∈ plainNames p.regs 0, x ≤ 1000 := by
    intro x hx
    simp only [plainNames, List.mem_map, List.mem_range] at hx
    obtain ⟨i, hi, rfl⟩ := hx
    split <;> omega
  have nT : ∀ x ∈ namesOf (hpairs h b) (q.regs + q.slots).toNat, x ≤ 1000 := by
    intro x hx
    simp only [namesOf, List.mem_map, List.mem_range] at hx
    obtain ⟨p, hp, rfl⟩ := hx
    split
    · rename_i y hy; exact (hpb y (List.mem_of_find?_eq_some hy)).2
    · omega
  have o1 := block_out hw hS (by omega) (by omega) nS gsops hzs ts _ (Nat.le_refl _)
  have o2 := block_out hw hT (by omega) (by omega) nT gtops hzt tt _ (Nat.le_refl _)
  have f1 := block_fails hw hS (by omega) (by omega) nS gsops hzs ts _ (Nat.le_refl _)
  have f2 := block_fails hw hT (by omega) (by omega) nT gtops hzt tt _ (Nat.le_refl _)
  rw [List.take_length] at o1 o2 f1 f2
  exact ⟨_, o1, o2, f1, f2⟩

/-- Two inputs at one pair of blocks: where the sources let out the same, so do the targets. -/
theorem block_quiet {p q : ProgD} {h : List PingD} (gp : progGood p = true) (gq : progGood q = true) (hp0 : p.slots = 0) (hd : p.data = q.data) (hok : ∀ b, b < q.blocks.length → BlockOk p q h b) {b : Nat} {s t s' t' : RunD} (u : Under2 p q h b s t) (u' : Under2 p q h b s' t')
    (ls : s.leak = s'.leak) (lt : t.leak = t'.leak) {x y : List Int} (e : (doOps (srcOps p h b) s).leak ++ x = (doOps (srcOps p h b) s').leak ++ y) :
    (doOps (srcOps p h b) s).trap = (doOps (srcOps p h b) s').trap ∧ (doOps (bops q.blocks b) t).trap = (doOps (srcOps p h b) s).trap ∧ (doOps (bops q.blocks b) t').trap = (doOps (srcOps p h b) s').trap ∧
      (doOps (srcOps p h b) s).leak = (doOps (srcOps p h b) s').leak ∧ (doOps (bops q.blocks b) t).leak = (doOps (bops q.blocks b) t').leak := by
  obtain ⟨r, a1, a2, a3, a4⟩ := under_out gp gq hp0 hd hok u
  obtain ⟨r', b1, b2, b3, b4⟩ := under_out gp gq hp0 hd hok u'
  have mk := (hok b u.lt).marks
  rw [hd] at mk
  rw [a1, b1, ls, List.append_assoc, List.append_assoc] at e
  have ag := agree_of_out (List.append_cancel_left e)
  have ag1 : Agree r r' q.data (marksD p.regs 0 q.data (plainNames p.regs 0) (srcOps p h b) (srcOps p h b).length) := (agree_marks r r' _ _ _ _ _ _).2 ag
  rw [mk] at ag1
  have ag2 : Agree r r' q.data (tgtRaw q h b) := (agree_marks r r' _ _ _ _ _ _).1 ag1
  have fS := fun w : EnvD => marks_fail w p.regs 0 q.data (plainNames p.regs 0) (srcOps p h b) (srcOps p h b).length
  have fT := fun w : EnvD => marks_fail w q.regs q.slots q.data (namesOf (hpairs h b) (q.regs + q.slots).toNat) (bops q.blocks b) (bops q.blocks b).length
  have ff : ∀ w : EnvD, firstFail w q.data (tgtRaw q h b) = firstFail w q.data (srcRaw p h b) := by
    intro w
    have h1 := fS w
    have h2 := fT w
    rw [mk] at h1
    exact h2.symm.trans h1
  refine ⟨by rw [a3, b3, ag.same.1], by rw [a4, a3, ff], by rw [b4, b3, ff], by rw [a1, b1, ls, ag.same.2], by rw [a2, b2, lt, ag2.same.2]⟩

theorem zero_of_bit {a b : Int} {x y : List Int} (h : (if a = 0 then (0 : Int) else 1) :: x = (if b = 0 then 0 else 1) :: y) : (a = 0 ↔ b = 0) := by
  have h := (List.cons.inj h).1
  by_cases ha : a = 0 <;> by_cases hb : b = 0 <;> simp [ha, hb] at h ⊢

theorem goes_same {s t : RunD} {e : EndD} (hl : s.leak = t.leak) (h : e.kind = 2 → (rg s.regs e.r = 0 ↔ rg t.regs e.r = 0)) : goesTo s e = goesTo t e ∧ (goesOn s e).leak = (goesOn t e).leak := by
  unfold goesTo goesOn
  by_cases h2 : e.kind = 2
  · simp only [h2, if_true, RunD.out, hl]
    have := h h2
    by_cases h0 : rg s.regs e.r = 0
    · have h1 := this.1 h0; simp [h0, h1]
    · have h1 : ¬ rg t.regs e.r = 0 := fun c => h0 (this.2 c)
      simp [h0, h1]
  · simp only [h2, if_false, hl, and_self]

/-- P14, block by block. -/
theorem twins_quiet {p q : ProgD} {h : List PingD} (gp : progGood p = true) (gq : progGood q = true) (hp0 : p.slots = 0) (hd : p.data = q.data) (hok : ∀ b, b < q.blocks.length → BlockOk p q h b) :
    ∀ (f : Nat) (b : Nat) (s t s' t' : RunD), Under2 p q h b s t → Under2 p q h b s' t' → s.leak = s'.leak → t.leak = t'.leak →
      (runN p.blocks f (hsrc h b) s).leak = (runN p.blocks f (hsrc h b) s').leak → (runN q.blocks f b t).leak = (runN q.blocks f b t').leak := by
  have gq' := gq
  have gp' := gp
  simp only [progGood, Bool.and_eq_true, decide_eq_true_eq] at gp' gq'
  obtain ⟨⟨⟨⟨⟨p1, p2⟩, p3⟩, p4⟩, p5⟩, p6⟩ := gp'
  obtain ⟨⟨⟨⟨⟨q1, q2⟩, q3⟩, q4⟩, q5⟩, q6⟩ := gq'
  rw [hp0] at p6
  intro f
  induction f with
  | zero => intro b s t s' t' u u' ls lt e; exact lt
  | succ f ih =>
    intro b s t s' t' u u' ls lt e
    have ok := hok b u.lt
    obtain ⟨gs12, gsops, gsend⟩ := blocksGood_at p6 (k := (hsrc h b).toNat) (by have := ok.src; omega)
    obtain ⟨gt12, gtops, gtend⟩ := blocksGood_at q6 u.lt
    have e1 : bops p.blocks (hsrc h b).toNat = srcOps p h b := rfl
    have e2 : ((b : Int)).toNat = b := by omega
    have pre : ∀ w : RunD, ∃ x, (doOps (srcOps p h b) w).leak ++ x = (runN p.blocks (f + 1) (hsrc h b) w).leak := by
      intro w
      simp only [runN, e1]
      split
      · exact ⟨[], by simp⟩
      · split
        · exact ⟨[], by simp⟩
        · exact (goesOn_pre _ _).trans (runN_pre _ _ _ _)
    obtain ⟨x, hx⟩ := pre s
    obtain ⟨y, hy⟩ := pre s'
    obtain ⟨k1, k2, k3, k4, k5⟩ := block_quiet gp gq hp0 hd hok u u' ls lt (x := x) (y := y) (by rw [hx, hy]; exact e)
    simp only [runN] at e ⊢
    rw [e1] at e
    rw [e2]
    by_cases h0 : (doOps (srcOps p h b) s).trap = 0
    · have h0' : (doOps (srcOps p h b) s').trap = 0 := by rw [← k1]; exact h0
      have h0t : (doOps (bops q.blocks b) t).trap = 0 := by rw [k2]; exact h0
      have h0t' : (doOps (bops q.blocks b) t').trap = 0 := by rw [k3]; exact h0'
      simp only [h0, h0', h0t, h0t', ne_eq, not_true_eq_false, if_false] at e ⊢
      have ks := end_kind gsend
      have kt := end_kind gtend
      have k3s := (effT_kind (t := srcT p h b (bfin p.blocks (hsrc h b).toNat).r) ks)
      have k3t := (effT_kind (t := tgtT q h b (bfin q.blocks b).r) kt)
      have hkind := ok.kind
      by_cases h3t : bek q.blocks b = 3
      · simp only [h3t, if_true]; exact k5
      · have h3 : bek p.blocks (hsrc h b).toNat ≠ 3 := fun c => h3t (k3t.1.1 (by show (tgtEnd q h b).kind = 3; rw [← hkind]; exact k3s.1.2 c))
        simp only [h3, h3t, if_false] at e ⊢
        obtain ⟨n1, n2, n3, n4, n5, n6⟩ := next_alike gp gq hp0 hd hok u h0 h3
        obtain ⟨m1, m2, m3, m4, m5, m6⟩ := next_alike gp gq hp0 hd hok u' h0' h3
        -- the source goes the same way
        have zs : (bfin p.blocks (hsrc h b).toNat).kind = 2 → (rg (doOps (srcOps p h b) s).regs (bfin p.blocks (hsrc h b).toNat).r = 0 ↔ rg (doOps (srcOps p h b) s').regs (bfin p.blocks (hsrc h b).toNat).r = 0) := by
          intro h2
          obtain ⟨x1, hx1⟩ := runN_pre p.blocks f (goesTo (doOps (srcOps p h b) s) (bfin p.blocks (hsrc h b).toNat)) (goesOn (doOps (srcOps p h b) s) (bfin p.blocks (hsrc h b).toNat))
          obtain ⟨y1, hy1⟩ := runN_pre p.blocks f (goesTo (doOps (srcOps p h b) s') (bfin p.blocks (hsrc h b).toNat)) (goesOn (doOps (srcOps p h b) s') (bfin p.blocks (hsrc h b).toNat))
          rw [← hx1, ← hy1] at e
          unfold goesOn at e
          rw [if_pos h2, if_pos h2] at e
          simp only [RunD.out, k4, List.append_assoc, List.singleton_append] at e
          exact zero_of_bit (List.append_cancel_left e)
        obtain ⟨gs1, gs2⟩ := goes_same k4 zs
        -- so does the target
        have zt : (bfin q.blocks b).kind = 2 → (rg (doOps (bops q.blocks b) t).regs (bfin q.blocks b).r = 0 ↔ rg (doOps (bops q.blocks b) t').regs (bfin q.blocks b).r = 0) := by
          intro h2
          cases ht : (tgtT q h b (bfin q.blocks b).r).isNum with
          | some n => rw [n6 n (isNum_some ht) h2, m6 n (isNum_some ht) h2]
          | none =>
            have c1 : (tgtEnd q h b).kind = 2 := by
              unfold tgtEnd effT
              rw [if_pos h2, ht]
              exact h2
            rw [← hkind] at c1
            obtain ⟨w1, w2⟩ := n5 c1
            obtain ⟨v1, v2⟩ := m5 c1
            rw [← w2, ← v2]
            exact zs w1
        obtain ⟨gt1, gt2⟩ := goes_same k5 zt
        rw [← gt1] at m1 m2 m3
        obtain ⟨d, hdd⟩ := Int.eq_ofNat_of_zero_le n2
        have e3 : ((d : Int)).toNat = d := by omega
        rw [← gt1, hdd]
        rw [hdd, e3] at n1 n3
        rw [hdd, e3] at m1 m3
        rw [← n1, ← m1] at e
        exact ih d _ _ _ _ n3 m3 gs2 gt2 e
    · have h0' : (doOps (srcOps p h b) s').trap ≠ 0 := by rw [← k1]; exact h0
      have h0t : (doOps (bops q.blocks b) t).trap ≠ 0 := by rw [k2]; exact h0
      have h0t' : (doOps (bops q.blocks b) t').trap ≠ 0 := by rw [k3]; exact h0'
      simp only [ne_eq, h0t, h0t', not_false_eq_true, if_true]
      exact k5

end Go.Proofs.YtblhmeidbjigaabGreatDoor

/- P14, whole runs; pure. -/
set_option linter.unusedSimpArgs false
set_option linter.unusedVariables false
noncomputable section
namespace Go.Proofs.YtblhmeidbjigaabGreatDoor
open Go.RowKit Classical

/-- Source and target at their beginnings. -/
theorem begins_under {p q : ProgD} {h : List PingD} (gp : progGood p = true) (gq : progGood q = true) (hp0 : p.slots = 0) (hok : ∀ b, b < q.blocks.length → BlockOk p q h b)
    (hst : ∀ x ∈ hpairs h 0, x.place < q.regs ∧ (x.reg = x.place ∨ (p.args ≤ x.reg ∧ p.args ≤ x.place)))
    {args mem spill : List Int} (fp : fits p args mem []) (fq : fits q args mem spill) (ha : ∀ x ∈ args, W64 x) (hm : ∀ x ∈ mem, W64 x) (hs : ∀ x ∈ spill, W64 x) :
    Under2 p q h 0 (begins p args mem []) (begins q args mem spill) := by
  have zp := begins_sized gp fp
  have zq := begins_sized gq fq
  rw [hp0] at zp
  have hb : 0 < q.blocks.length := by
    simp only [progGood, Bool.and_eq_true, decide_eq_true_eq] at gq
    omega
  refine ⟨hb, zp, zq, begins_wide ha hm (fun x hx => by cases hx), begins_wide ha hm hs, rfl, rfl, fun x hx => ?_, rfl⟩
  obtain ⟨x1, x2⟩ := hst x hx
  have hx2 := (hok 0 hb).pairs x hx
  unfold placeV
  rw [if_pos x1]
  show rg (regs0 args _) x.reg = rg (regs0 args _) x.place
  rw [rg_regs0 args _ hx2.1, rg_regs0 args _ hx2.2.2.1]
  have hl := fp.1
  rcases x2 with e | ⟨e1, e2⟩
  · rw [e]
  · rw [if_neg (by omega), if_neg (by omega)]

/-- P14: where the source lets out the same with two inputs, so does the target, whatever its slots hold. -/
theorem twins_silent {p q : ProgD} {h : List PingD} (gp : progGood p = true) (gq : progGood q = true) (hp0 : p.slots = 0) (hd : p.data = q.data) (hok : ∀ b, b < q.blocks.length → BlockOk p q h b)
    (hs0 : hsrc h 0 = 0) (hst : ∀ x ∈ hpairs h 0, x.place < q.regs ∧ (x.reg = x.place ∨ (p.args ≤ x.reg ∧ p.args ≤ x.place)))
    {args mem spill args' mem' spill' : List Int} (fp : fits p args mem []) (fq : fits q args mem spill) (ha : ∀ x ∈ args, W64 x) (hm : ∀ x ∈ mem, W64 x) (hs : ∀ x ∈ spill, W64 x)
    (fp' : fits p args' mem' []) (fq' : fits q args' mem' spill') (ha' : ∀ x ∈ args', W64 x) (hm' : ∀ x ∈ mem', W64 x) (hs' : ∀ x ∈ spill', W64 x) (f : Nat)
    (e : (runN p.blocks f 0 (begins p args mem [])).leak = (runN p.blocks f 0 (begins p args' mem' [])).leak) :
    (runN q.blocks f 0 (begins q args mem spill)).leak = (runN q.blocks f 0 (begins q args' mem' spill')).leak := by
  have u := begins_under gp gq hp0 hok hst fp fq ha hm hs
  have u' := begins_under gp gq hp0 hok hst fp' fq' ha' hm' hs'
  exact twins_quiet gp gq hp0 hd hok f 0 _ _ _ _ u u' rfl rfl (by rw [hs0]; exact e)

end Go.Proofs.YtblhmeidbjigaabGreatDoor

/- P12 in the document's words: pure. -/
set_option linter.unusedSimpArgs false
set_option linter.unusedVariables false
noncomputable section
namespace Go.Proofs.YtblhmeidbjigaabGreatDoor
open Go.RowKit Classical

/-- P12 (2): is the hint one for these programs? -/
def suitsD (p q : ProgD) (h : List PingD) : Prop :=
  h.length = q.blocks.length ∧ ∀ b, b < h.length → hsrc h b < p.blocks.length ∧ ∀ x ∈ hpairs h b, x.reg < p.regs ∧ x.place < q.regs + q.slots

/-- P12 (3). -/
def startsD (q : ProgD) (h : List PingD) : Prop :=
  hsrc h 0 = 0 ∧ ∀ x ∈ hpairs h 0, x.place < q.regs ∧ (x.reg = x.place ∨ (q.args ≤ x.reg ∧ q.args ≤ x.place))

section
variable (p q : ProgD) (h : List PingD) (b : Nat)
def pairsOkD (l : List PairD) : Prop := ∀ x ∈ l, srcT p h b x.reg = tgtT q h b x.place


/-- P12 (4): what is wrong at block b of the target; 0: nothing. -/
def wrongD : Int :=
  if bigT p.regs 0 (plainNames p.regs 0) (srcOps p h b) = true ∨ bigT q.regs q.slots (namesOf (hpairs h b) (q.regs + q.slots).toNat) (bops q.blocks b) = true then 5
  else if marksD p.regs 0 p.data (plainNames p.regs 0) (srcOps p h b) (srcOps p h b).length ≠ marksD q.regs q.slots q.data (namesOf (hpairs h b) (q.regs + q.slots).toNat) (bops q.blocks b) (bops q.blocks b).length then 10
  else if srcT p h b p.regs ≠ tgtT q h b (q.regs + q.slots) then 11
  else if (srcEnd p h b).kind ≠ (tgtEnd q h b).kind then 12
  else if ((srcEnd p h b).kind = 2 ∨ (srcEnd p h b).kind = 3) ∧ srcT p h b (srcEnd p h b).r ≠ tgtT q h b (tgtEnd q h b).r then 12
  else if (srcEnd p h b).kind = 3 then 0
  else if hsrc h (tgtEnd q h b).x.toNat ≠ (srcEnd p h b).x then 13
  else if (srcEnd p h b).kind = 2 ∧ hsrc h (tgtEnd q h b).y.toNat ≠ (srcEnd p h b).y then 13
  else if ¬ pairsOkD p q h b (hpairs h (tgtEnd q h b).x.toNat) then 14
  else if (srcEnd p h b).kind = 2 ∧ ¬ pairsOkD p q h b (hpairs h (tgtEnd q h b).y.toNat) then 14
  else 0
end

/-- P12: what Validate answers of texts that are read as p, q and h. -/
def JudgedD (p q : ProgD) (h : List PingD) (e n : Int) : Prop :=
  (e = 9 ∧ n = 0 ∧ ¬ startsD q h) ∨ (startsD q h ∧
    ((∃ b : Nat, b < q.blocks.length ∧ n = b ∧ e = wrongD p q h b ∧ e ≠ 0 ∧ ∀ c, c < b → wrongD p q h c = 0) ∨ (e = 0 ∧ n = 0 ∧ ∀ b, b < q.blocks.length → wrongD p q h b = 0)))

/-- P12: what Validate answers. -/
def ValAns (s t g : ByteArray) (e n : Int) : Prop :=
  (e = 6 ∧ n = 0 ∧ ∀ p, progGood p = true → str (progText p) = s → p.slots ≠ 0) ∨
  ∃ p, progGood p = true ∧ str (progText p) = s ∧ p.slots = 0 ∧
    ((e = 7 ∧ n = 0 ∧ ∀ q, progGood q = true → str (progText q) ≠ t) ∨
      ∃ q, progGood q = true ∧ str (progText q) = t ∧
        ((e = 8 ∧ n = 0 ∧ ¬ (p.args = q.args ∧ p.data = q.data)) ∨ ((p.args = q.args ∧ p.data = q.data) ∧
          ((e = 2 ∧ n = 0 ∧ ∀ h, goodHint h = true → str (hintText h) = g → ¬ suitsD p q h) ∨
            ∃ h, goodHint h = true ∧ str (hintText h) = g ∧ suitsD p q h ∧ JudgedD p q h e n))))

theorem JudgedD.one {p q : ProgD} {h : List PingD} {e n e' n' : Int} (a : JudgedD p q h e n) (b : JudgedD p q h e' n') : e = e' ∧ n = n' := by
  rcases a with ⟨rfl, rfl, a1⟩ | ⟨a0, a1⟩
  · rcases b with ⟨rfl, rfl, _⟩ | ⟨b0, _⟩
    · exact ⟨rfl, rfl⟩
    · exact absurd b0 a1
  · rcases b with ⟨_, _, b1⟩ | ⟨_, b1⟩
    · exact absurd a0 b1
    · rcases a1 with ⟨x, x1, rfl, rfl, x2, x3⟩ | ⟨rfl, rfl, x1⟩
      · rcases b1 with ⟨y, y1, rfl, rfl, y2, y3⟩ | ⟨_, _, y1⟩
        · have : x = y := by
            rcases Nat.lt_trichotomy x y with c | c | c
            · exact absurd (y3 x c) x2
            · exact c
            · exact absurd (x3 y c) y2
          subst this
          exact ⟨rfl, rfl⟩
        · exact absurd (y1 x x1) x2
      · rcases b1 with ⟨y, y1, rfl, rfl, y2, y3⟩ | ⟨rfl, rfl, y1⟩
        · exact absurd (x1 y y1) y2
        · exact ⟨rfl, rfl⟩

theorem ValAns.one {s t g : ByteArray} {e n e' n' : Int} (a : ValAns s t g e n) (b : ValAns s t g e' n') : e = e' ∧ n = n' := by
  rcases a with ⟨rfl, rfl, a1⟩ | ⟨p, pg, pt, p0, a1⟩
  · rcases b with ⟨rfl, rfl, _⟩ | ⟨p, pg, pt, p0, _⟩
    · exact ⟨rfl, rfl⟩
    · exact absurd p0 (a1 p pg pt)
  rcases b with ⟨_, _, b1⟩ | ⟨p', pg', pt', p0', b1⟩
  · exact absurd p0 (b1 p pg pt)
  obtain rfl : p = p' := prog_one pg pg' (pt.trans pt'.symm)
  rcases a1 with ⟨rfl, rfl, a1⟩ | ⟨q, qg, qt, a1⟩
  · rcases b1 with ⟨rfl, rfl, _⟩ | ⟨q, qg, qt, _⟩
    · exact ⟨rfl, rfl⟩
    · exact absurd qt (a1 q qg)
  rcases b1 with ⟨_, _, b1⟩ | ⟨q', qg', qt', b1⟩
  · exact absurd qt (b1 q qg)
  obtain rfl : q = q' := prog_one qg qg' (qt.trans qt'.symm)
  rcases a1 with ⟨rfl, rfl, a1⟩ | ⟨a0, a1⟩
  · rcases b1 with ⟨rfl, rfl, _⟩ | ⟨b0, _⟩
    · exact ⟨rfl, rfl⟩
    · exact absurd b0 a1
  rcases b1 with ⟨_, _, b1⟩ | ⟨_, b1⟩
  · exact absurd a0 b1
  rcases a1 with ⟨rfl, rfl, a1⟩ | ⟨h, hg, ht, hs, a1⟩
  · rcases b1 with ⟨rfl, rfl, _⟩ | ⟨h, hg, ht, hs, _⟩
    · exact ⟨rfl, rfl⟩
    · exact absurd hs (a1 h hg ht)
  rcases b1 with ⟨_, _, b1⟩ | ⟨h', hg', ht', hs', b1⟩
  · exact absurd hs (b1 h hg ht)
  obtain rfl : h = h' := hint_one hg hg' (ht.trans ht'.symm)
  exact a1.one b1

theorem goodPairs_all {l : List PairD} {last : Int} (h : goodPairs last l = true) : ∀ x ∈ l, 0 ≤ x.reg ∧ 0 ≤ x.place := by
  induction l generalizing last with
  | nil => intro x hx; cases hx
  | cons y l ih =>
    simp only [goodPairs, Bool.and_eq_true, below, decide_eq_true_eq] at h
    intro x hx
    rcases List.mem_cons.1 hx with rfl | hx
    · omega
    · exact ih h.2 x hx

theorem goodHint_at {h : List PingD} (g : goodHint h = true) {b : Nat} (hb : b < h.length) : 0 ≤ hsrc h b ∧ ∀ x ∈ hpairs h b, 0 ≤ x.reg ∧ 0 ≤ x.place := by
  simp only [goodHint, goodPings, Bool.and_eq_true, decide_eq_true_eq, List.all_eq_true] at g
  have hm : h.getD b hz ∈ h := by simp [List.getD, hb]
  have := g.2 _ hm
  simp only [goodPing, Bool.and_eq_true, below, decide_eq_true_eq] at this
  exact ⟨this.1.1.1, goodPairs_all this.2⟩

/-- Where nothing is wrong, P12 (4) holds. -/
theorem blockOk_of {p q : ProgD} {h : List PingD} (hg : goodHint h = true) (hs : suitsD p q h) {b : Nat} (hb : b < q.blocks.length) (hw : wrongD p q h b = 0) : BlockOk p q h b := by
  have hbl : b < h.length := by rw [hs.1]; exact hb
  obtain ⟨s1, s2⟩ := hs.2 b hbl
  obtain ⟨g1, g2⟩ := goodHint_at hg hbl
  unfold wrongD at hw
  split at hw; · omega
  split at hw; · omega
  rename_i hm
  split at hw; · omega
  rename_i hc
  split at hw; · omega
  rename_i hk
  split at hw; · omega
  rename_i ht
  have hm := Decidable.not_not.1 hm
  have hc := Decidable.not_not.1 hc
  have hk := Decidable.not_not.1 hk
  have ht : ((srcEnd p h b).kind = 2 ∨ (srcEnd p h b).kind = 3) → srcT p h b (srcEnd p h b).r = tgtT q h b (tgtEnd q h b).r := fun a => Decidable.not_not.1 fun c => ht ⟨a, c⟩
  have hp : ∀ x ∈ hpairs h b, 0 ≤ x.reg ∧ x.reg < p.regs ∧ 0 ≤ x.place ∧ x.place < q.regs + q.slots := fun x hx => ⟨(g2 x hx).1, (s2 x hx).1, (g2 x hx).2, (s2 x hx).2⟩
  split at hw
  · rename_i h3
    exact ⟨⟨g1, s1⟩, hp, hm, hc, hk, ht, fun c => absurd h3 c, fun c => by omega⟩
  split at hw; · omega
  rename_i x1
  split at hw; · omega
  rename_i x2
  split at hw; · omega
  rename_i x3
  split at hw; · omega
  rename_i x4
  have x1 := Decidable.not_not.1 x1
  have x3 := Decidable.not_not.1 x3
  exact ⟨⟨g1, s1⟩, hp, hm, hc, hk, ht, fun _ => ⟨x1, x3⟩, fun c => ⟨Decidable.not_not.1 fun d => x2 ⟨c, d⟩, Decidable.not_not.1 fun d => x4 ⟨c, d⟩⟩⟩

/-- What is taken for twins. -/
theorem ValAns.ok {s t g : ByteArray} {n : Int} (a : ValAns s t g 0 n) : ∃ p q h, progGood p = true ∧ str (progText p) = s ∧ progGood q = true ∧ str (progText q) = t ∧ goodHint h = true ∧ str (hintText h) = g ∧ p.slots = 0 ∧ p.args = q.args ∧ p.data = q.data ∧
    (∀ b, b < q.blocks.length → BlockOk p q h b) ∧ hsrc h 0 = 0 ∧ (∀ x ∈ hpairs h 0, x.place < q.regs ∧ (x.reg = x.place ∨ (p.args ≤ x.reg ∧ p.args ≤ x.place))) := by
  rcases a with ⟨c, _⟩ | ⟨p, pg, pt, p0, a⟩
  · omega
  rcases a with ⟨c, _⟩ | ⟨q, qg, qt, a⟩
  · omega
  rcases a with ⟨c, _⟩ | ⟨⟨e1, e2⟩, a⟩
  · omega
  rcases a with ⟨c, _⟩ | ⟨h, hg, ht, hs, a⟩
  · omega
  rcases a with ⟨c, _⟩ | ⟨st, a⟩
  · omega
  rcases a with ⟨b, _, _, c, d, _⟩ | ⟨_, _, a⟩
  · omega
  exact ⟨p, q, h, pg, pt, qg, qt, hg, ht, p0, e1, e2, fun b hb => blockOk_of hg hs hb (a b hb), st.1, by rw [e1]; exact st.2⟩

end Go.Proofs.YtblhmeidbjigaabGreatDoor

/- P15: a source is its own twin; pure. -/
set_option linter.unusedSimpArgs false
set_option linter.unusedVariables false
noncomputable section
namespace Go.Proofs.YtblhmeidbjigaabGreatDoor
open Go.RowKit Classical

def idPairs (n : Nat) : List PairD := (List.range n).map fun (i : Nat) => ⟨i, i⟩
def idHint (p : ProgD) : List PingD := (List.range p.blocks.length).map fun (b : Nat) => ⟨b, idPairs p.regs.toNat⟩

theorem idPairs_mem {n : Nat} {x : PairD} (h : x ∈ idPairs n) : ∃ i : Nat, i < n ∧ x = ⟨i, i⟩ := by
  simp only [idPairs, List.mem_map, List.mem_range] at h
  obtain ⟨i, hi, rfl⟩ := h
  exact ⟨i, hi, rfl⟩

theorem good_from {n : Nat} (hn : n ≤ 8) : ∀ (k : Nat) (last : Int), last < ((n - k : Nat) : Int) → k ≤ n → goodPairs last ((List.range' (n - k) k).map fun (i : Nat) => (⟨i, i⟩ : PairD)) = true := by
  intro k
  induction k with
  | zero => intro last _ _; rfl
  | succ k ih =>
    intro last hl hk
    rw [List.range'_succ]
    simp only [List.map_cons, goodPairs, Bool.and_eq_true, below, decide_eq_true_eq]
    refine ⟨⟨⟨by omega, by omega⟩, hl⟩, ?_⟩
    have := ih ((n - (k + 1) : Nat) : Int) (by omega) (by omega)
    rw [show n - (k + 1) + 1 = n - k by omega]
    exact this

theorem idPairs_good {n : Nat} (hn : n ≤ 8) : goodPairs (-1) (idPairs n) = true := by
  have := good_from hn n (-1) (by omega) (Nat.le_refl _)
  rw [Nat.sub_self, ← List.range_eq_range'] at this
  exact this

theorem idHint_at {p : ProgD} {b : Nat} (hb : b < p.blocks.length) : hsrc (idHint p) b = b ∧ hpairs (idHint p) b = idPairs p.regs.toNat := by
  simp [hsrc, hpairs, idHint, List.getD, hb]

theorem idHint_good {p : ProgD} (gp : progGood p = true) : goodHint (idHint p) = true := by
  simp only [progGood, Bool.and_eq_true, decide_eq_true_eq] at gp
  obtain ⟨⟨⟨⟨⟨p1, p2⟩, p3⟩, p4⟩, p5⟩, p6⟩ := gp
  simp only [goodHint, goodPings, Bool.and_eq_true, decide_eq_true_eq, List.all_eq_true]
  refine ⟨by simp [idHint]; omega, fun x hx => ?_⟩
  simp only [idHint, List.mem_map, List.mem_range] at hx
  obtain ⟨b, hb, rfl⟩ := hx
  simp only [goodPing, Bool.and_eq_true, below, decide_eq_true_eq]
  exact ⟨⟨by omega, by simp [idPairs]; omega⟩, idPairs_good (by omega)⟩

theorem find_id (n : Nat) : ∀ (k a : Nat), (p : Nat) → a ≤ p → p < a + k → ((List.range' a k).map fun (i : Nat) => (⟨i, i⟩ : PairD)).find? (fun x => decide (x.place = (p : Int))) = some ⟨p, p⟩ := by
  intro k
  induction k with
  | zero => intro a p h1 h2; omega
  | succ k ih =>
    intro a p h1 h2
    rw [List.range'_succ, List.map_cons, List.find?_cons]
    by_cases he : a = p
    · subst he; simp
    · rw [show decide (((a : Nat) : Int) = (p : Int)) = false by simp; omega]
      exact ih (a + 1) p (by omega) (by omega)

theorem namesOf_id {regs : Int} (h : 0 ≤ regs) : namesOf (idPairs regs.toNat) (regs + 0).toNat = plainNames regs 0 := by
  unfold namesOf plainNames
  apply List.map_congr_left
  intro p hp
  simp only [List.mem_range] at hp
  have := find_id regs.toNat regs.toNat 0 p (by omega) (by omega)
  rw [← List.range_eq_range'] at this
  unfold idPairs
  rw [this, if_pos (by omega)]

/-- At itself nothing is wrong. -/
theorem self_wrong {p : ProgD} (gp : progGood p = true) (hp0 : p.slots = 0) (hs : ∀ b, b < p.blocks.length → (bops p.blocks b).length ≤ 7) {b : Nat} (hb : b < p.blocks.length) : wrongD p p (idHint p) b = 0 := by
  have gp' := gp
  simp only [progGood, Bool.and_eq_true, decide_eq_true_eq] at gp'
  obtain ⟨⟨⟨⟨⟨p1, p2⟩, p3⟩, p4⟩, p5⟩, p6⟩ := gp'
  obtain ⟨i1, i2⟩ := idHint_at hb
  have hn := namesOf_id (regs := p.regs) (by omega)
  have so : srcOps p (idHint p) b = bops p.blocks b := by unfold srcOps; rw [i1]; congr 1
  have tt : ∀ i, tgtT p (idHint p) b i = srcT p (idHint p) b i := by
    intro i
    unfold tgtT srcT
    rw [so, i2, hp0, hn]
  have e1 : srcEnd p (idHint p) b = tgtEnd p (idHint p) b := by
    unfold srcEnd tgtEnd
    rw [tt, i1]
    rfl
  obtain ⟨g12, gops, gend⟩ := blocksGood_at p6 hb
  have pk : ∀ d : Int, 0 ≤ d → d < p.blocks.length → hsrc (idHint p) d.toNat = d ∧ pairsOkD p p (idHint p) b (hpairs (idHint p) d.toNat) := by
    intro d d0 d1
    obtain ⟨j1, j2⟩ := idHint_at (p := p) (b := d.toNat) (by omega)
    refine ⟨by rw [j1]; omega, ?_⟩
    rw [j2]
    intro x hx
    obtain ⟨i, _, rfl⟩ := idPairs_mem hx
    exact (tt _).symm
  have ends : (tgtEnd p (idHint p) b).kind ≠ 3 → (0 ≤ (tgtEnd p (idHint p) b).x ∧ (tgtEnd p (idHint p) b).x < p.blocks.length) ∧ ((tgtEnd p (idHint p) b).kind = 2 → 0 ≤ (tgtEnd p (idHint p) b).y ∧ (tgtEnd p (idHint p) b).y < p.blocks.length) := by
    intro h3
    have k := end_kind gend
    have hg := gend
    unfold endGood at hg
    unfold tgtEnd effT at h3 ⊢
    by_cases k2 : (bfin p.blocks b).kind = 2
    · have hg2 : (0 ≤ (bfin p.blocks b).x ∧ (bfin p.blocks b).x < p.blocks.length) ∧ (0 ≤ (bfin p.blocks b).y ∧ (bfin p.blocks b).y < p.blocks.length) := by
        simp [k2, below] at hg; omega
      simp only [k2, if_true]
      split
      · refine ⟨?_, fun c => by simp at c⟩
        simp only
        split
        · exact hg2.1
        · exact hg2.2
      · exact ⟨hg2.1, fun _ => hg2.2⟩
    · simp only [k2, if_false] at h3 ⊢
      have k1 : (bfin p.blocks b).kind = 1 := by omega
      refine ⟨?_, fun c => by first | exact c.elim | omega⟩
      simp [k1, below] at hg; omega
  unfold wrongD
  rw [if_neg (by rw [bigT_short (by rw [so]; exact hs b hb), bigT_short (hs b hb)]; simp)]
  rw [if_neg (by rw [so, i2, hp0, hn]; simp)]
  rw [if_neg (by rw [tt, hp0, Int.add_zero]; simp)]
  rw [if_neg (by rw [e1]; simp)]
  rw [if_neg (by rw [tt, e1]; simp)]
  by_cases h3 : (srcEnd p (idHint p) b).kind = 3
  · rw [if_pos h3]
  · rw [if_neg h3]
    rw [e1] at h3 ⊢
    obtain ⟨x1, x2⟩ := ends h3
    obtain ⟨a1, a2⟩ := pk _ x1.1 x1.2
    rw [if_neg (by rw [a1]; simp)]
    by_cases k2 : (tgtEnd p (idHint p) b).kind = 2
    · obtain ⟨y1, y2⟩ := pk _ (x2 k2).1 (x2 k2).2
      rw [if_neg (by rw [y1]; simp), if_neg (by simpa using a2), if_neg (fun c => c.2 y2)]
    · rw [if_neg (fun c => k2 c.1), if_neg (by simpa using a2), if_neg (fun c => k2 c.1)]

/-- P15: a source is its own twin. -/
theorem self_twin {p : ProgD} (gp : progGood p = true) (hp0 : p.slots = 0) (hs : ∀ b, b < p.blocks.length → (bops p.blocks b).length ≤ 7) : ValAns (str (progText p)) (str (progText p)) (str (hintText (idHint p))) 0 0 := by
  have gp' := gp
  simp only [progGood, Bool.and_eq_true, decide_eq_true_eq] at gp'
  obtain ⟨⟨⟨⟨⟨p1, p2⟩, p3⟩, p4⟩, p5⟩, p6⟩ := gp'
  obtain ⟨i1, i2⟩ := idHint_at (p := p) (b := 0) (by omega)
  refine .inr ⟨p, gp, rfl, hp0, .inr ⟨p, gp, rfl, .inr ⟨⟨rfl, rfl⟩, .inr ⟨idHint p, idHint_good gp, rfl, ⟨by simp [idHint], fun b hb => ?_⟩, .inr ⟨⟨by rw [i1]; rfl, fun x hx => ?_⟩, .inr ⟨rfl, rfl, fun b hb => self_wrong gp hp0 hs hb⟩⟩⟩⟩⟩⟩
  · have hb' : b < p.blocks.length := by simpa [idHint] using hb
    obtain ⟨j1, j2⟩ := idHint_at hb'
    rw [j1, j2]
    refine ⟨by omega, fun x hx => ?_⟩
    obtain ⟨i, hi, rfl⟩ := idPairs_mem hx
    simp only
    omega
  · rw [i2] at hx
    obtain ⟨i, hi, rfl⟩ := idPairs_mem hx
    exact ⟨by simp only; omega, .inl rfl⟩

end Go.Proofs.YtblhmeidbjigaabGreatDoor

/- The hint that says: as it is (twinkeep.identity). -/
set_option linter.unusedSimpArgs false
set_option linter.unusedVariables false
namespace Go.Proofs.YtblhmeidbjigaabGreatDoor
open Go.RowKit

theorem idPairs_snoc (p : Nat) : idPairs (p + 1) = idPairs p ++ [⟨p, p⟩] := by
  simp [idPairs, List.range_succ]

/-- The pairings of n blocks, each with r pairs. -/
def idPings (n r : Nat) : List PingD := (List.range n).map fun (b : Nat) => ⟨b, idPairs r⟩

theorem idPings_snoc (n r : Nat) : idPings (n + 1) r = idPings n r ++ [⟨n, idPairs r⟩] := by
  simp [idPings, List.range_succ]

theorem idHint_pings (p : ProgD) : idHint p = idPings p.blocks.length p.regs.toNat := rfl

theorem hdat_snoc (hv : List (PingD × Value)) (x : PingD) (v : Value) : hdat (hv ++ [(x, v)]) = hdat hv ++ [x] := by
  simp [hdat]

set_option maxRecDepth 100000 in
set_option maxHeartbeats 8000000 in
theorem identity_cps (a0 a1 a2 a3 : Int) (po : Option Addr) (nb pc : Nat) (w : World) (hr0 : 0 ≤ a1) (hr8 : a1 ≤ 8) (hnb : nb ≤ 6) (Post : Ending → World → Prop)
    (hp : ∀ v hv w', Hid (hdat hv = idPings nb a1.toNat) → OwnHint w' w.heap.size v hv → Below w.heap.size w w' → Post (.returned (.agg #[v])) w') :
    Calls Tryz.prog 15 #[.agg #[.int .i64 a0, .int .i64 a1, .int .i64 a2, .int .i64 a3, .slice po nb pc]] w Post := by
  obtain ⟨i0, ii, iz0, iz1, iz2⟩ := info_parts Tryz.infoPing
  obtain ⟨j0, ji, jz0, jz1, jz2⟩ := info_parts Tryz.infoPair
  have rB : Row (((w.alloc (.cells #[.int .i64 a0, .int .i64 a1, .int .i64 a2, .int .i64 a3, .slice po nb pc] 25)).alloc (.cells #[.slice none 0 0] 30)).alloc (.cells #[.slice none 0 0] 30)) w.heap.size 25 [.int .i64 a0, .int .i64 a1, .int .i64 a2, .int .i64 a3, .slice po nb pc] := by
    have q : Row (w.alloc (.cells #[.int .i64 a0, .int .i64 a1, .int .i64 a2, .int .i64 a3, .slice po nb pc] 25)) w.heap.size 25 [.int .i64 a0, .int .i64 a1, .int .i64 a2, .int .i64 a3, .slice po nb pc] := heap_alloc_new w _
    exact (q.alloc _).alloc _
  have rA : Row (((w.alloc (.cells #[.int .i64 a0, .int .i64 a1, .int .i64 a2, .int .i64 a3, .slice po nb pc] 25)).alloc (.cells #[.slice none 0 0] 30)).alloc (.cells #[.slice none 0 0] 30)) (w.heap.size + 1) 30 [.slice none 0 0] := by
    have q : Row ((w.alloc (.cells #[.int .i64 a0, .int .i64 a1, .int .i64 a2, .int .i64 a3, .slice po nb pc] 25)).alloc (.cells #[.slice none 0 0] 30)) (w.heap.size + 1) 30 [.slice none 0 0] := heap_alloc2_new w _ _
    exact q.alloc _
  have rH : Row (((w.alloc (.cells #[.int .i64 a0, .int .i64 a1, .int .i64 a2, .int .i64 a3, .slice po nb pc] 25)).alloc (.cells #[.slice none 0 0] 30)).alloc (.cells #[.slice none 0 0] 30)) (w.heap.size + 2) 30 [.slice none 0 0] := by
    have q := heap_alloc2_new (w.alloc (.cells #[.int .i64 a0, .int .i64 a1, .int .i64 a2, .int .i64 a3, .slice po nb pc] 25)) (.cells #[.slice none 0 0] 30) (.cells #[.slice none 0 0] 30)
    simp only [World.size_alloc] at q
    exact q
  have ke : Keep (fun _ => False) w (((w.alloc (.cells #[.int .i64 a0, .int .i64 a1, .int .i64 a2, .int .i64 a3, .slice po nb pc] 25)).alloc (.cells #[.slice none 0 0] 30)).alloc (.cells #[.slice none 0 0] 30)) := (((Keep.refl _ _).alloc _).alloc _).alloc _
  have hz : w.heap.size + 3 ≤ (((w.alloc (.cells #[.int .i64 a0, .int .i64 a1, .int .i64 a2, .int .i64 a3, .slice po nb pc] 25)).alloc (.cells #[.slice none 0 0] 30)).alloc (.cells #[.slice none 0 0] 30)).heap.size := by simp
  go_enter Tryz.func15, Tryz.ntmps15
  go_wp2
  go_loopw [4] (fun i wr => ∃ (j : Nat) (v : Value) (hv : List (PingD × Value)), j ≤ nb ∧ i = .int .i64 j ∧ Hid (hv.length = j) ∧ Hid (hdat hv = idPings j a1.toNat) ∧ Row wr w.heap.size 25 [.int .i64 a0, .int .i64 a1, .int .i64 a2, .int .i64 a3, .slice po nb pc] ∧ Row wr (w.heap.size + 1) 30 [.slice none 0 0] ∧ Row wr (w.heap.size + 2) 30 [v] ∧
      OwnHint wr (w.heap.size + 3) v hv ∧ Keep (fun _ => False) w wr ∧ w.heap.size + 3 ≤ wr.heap.size)
    (fun i _ => nb - (intOf i).toNat)
  case atStart => exact ⟨0, .slice none 0 0, [], Nat.zero_le _, rfl, rfl, rfl, rB, rA, rH, ownHint_nil _ _, ke, hz⟩
  case round =>
    clear rA rH rB ke hz
    rename World => w1
    obtain ⟨j, v, hv, hj, rfl, hvl, hbg, rB, rA, rH, own, ke, hz⟩ := hrel
    obtain ⟨bo, bc, rfl⟩ := owns_slice own.row
    have c4 := rB.cell (i := 4) rfl
    by_cases hlt : j < nb
    · have rX1 : Row (w1.alloc (.cells #[.int .i64 j, .slice none 0 0] 33)) w1.heap.size 33 [.int .i64 j, .slice none 0 0] := heap_alloc_new w1 _
      have keX : Keep (fun _ => False) w1 (w1.alloc (.cells #[.int .i64 j, .slice none 0 0] 33)) := (Keep.refl _ _).alloc _
      have w1z : w1.heap.size + 1 ≤ (w1.alloc (.cells #[.int .i64 j, .slice none 0 0] 33)).heap.size := by simp
      go_wp2
      go_loopw [6] (fun i wi => ∃ (p : Nat) (ps : List PairD) (sv : Value), (p : Int) ≤ a1 ∧ i = .int .i64 p ∧ Hid (ps = idPairs p) ∧ Hid (ps.length = p) ∧ Row wi w1.heap.size 33 [.int .i64 j, sv] ∧ wi.ownsRow (w1.heap.size + 1) 38 2 sv ps.length (pairCells ps) ∧
          Keep (fun _ => False) w1 wi ∧ w1.heap.size + 1 ≤ wi.heap.size)
        (fun i _ => a1.toNat - (intOf i).toNat)
      case atStart => exact ⟨0, [], _, by omega, rfl, rfl, rfl, rX1, World.ownsRow_nil _ _ _ _, keX, w1z⟩
      case round =>
        clear rX1 keX w1z c4
        obtain ⟨p, ps, sv, hpp, rfl, hpt, hpl, rX, pown, kei, hzi⟩ := hrel
        obtain ⟨so, sc, rfl⟩ := owns_slice pown
        have d1 := (rB.kept kei (fun h => h)).cell (i := 1) rfl
        by_cases hp16 : (p : Int) < a1
        · have a1' := rX.cell (i := 1) rfl
          go_wp2_with (at_builtin; refine wpList_append_own _ rfl _ _ 31 rfl (w1.heap.size + 1) 38 j0 (.agg #[.int .i64 0, .int .i64 0]) 2 16 Tryz.underlying31 ji jz0 jz1 jz2 rfl (by decide) _ _ _ rfl (pown.alloc _) ⟨wr.heap.size, 0, none⟩ 1 1 [.int .i64 p, .int .i64 p] rfl rfl ?c1 ?c2 ?c3 ?c4 ?c5 ?_)
          case c1 => simpa using two_new wr _ _ _
          case c2 => exact pairs_one _ _
          case c3 => have := hpl.out; unfold maxLen; omega
          case c4 => have := hpl.out; omega
          case c5 => simp; omega
          intro v' w5 hown5 hgrow5 _
          have hb5 := ((Below.refl (w1.heap.size + 1) wr).alloc hzi (.cells #[.int .i64 p, .int .i64 p] 38)).grown hgrow5 (by simp; omega) (fun g hg => (pown.lt g hg).1)
          have rX5 := rX.below hb5 (by omega)
          have ke5 := kei.below hb5 (by omega)
          have hz5 := hb5.size
          have y1 := rX5.cell (i := 1) rfl
          have yf := rX5.frozen 1
          obtain ⟨bo', bc', hv'⟩ := owns_slice hown5
          subst hv'
          have rX6 := rX5.set 1 (.slice bo' (ps.length + 1) bc')
          have ke6 := ke5.setCell (p := ⟨w1.heap.size, 1, none⟩) (.inr (Nat.le_refl _)) (.slice bo' (ps.length + 1) bc')
          have own6 := ownsRow_setCell_below hown5 (a := ⟨w1.heap.size, 1, none⟩) (by show w1.heap.size < w1.heap.size + 1; omega) (.slice bo' (ps.length + 1) bc')
          rw [← pairCells_snoc] at own6
          have HP : Hid (ps ++ [⟨p, p⟩] = idPairs (p + 1)) := by show _ = _; rw [hpt.out, idPairs_snoc]
          have HL : Hid ((ps ++ [(⟨p, p⟩ : PairD)]).length = p + 1) := by show _ = _; have := hpl.out; simp; exact this
          clear rX5 ke5 hown5 hgrow5 hb5 rX pown kei hpt d1 a1'
          go_wp2
          go_roundw
          case rel => exact ⟨p + 1, ps ++ [⟨p, p⟩], _, by omega, by go_num, HP, HL, rX6, by simpa using own6, ke6, by simp; omega⟩
          case measure => simp [intOf]; omega
        · obtain rfl : p = a1.toNat := by omega
          have rA2 := rA.kept kei (fun h => h)
          have rB2 := rB.kept kei (fun h => h)
          have rH2 := rH.kept kei (fun h => h)
          have own2 := own.apartFrom kei (fun g hg => hg.elim)
          have ke2 := ke.trans kei
          have hzl : w.heap.size + 3 ≤ wr.heap.size := by omega
          have h0 := rH2.cell (i := 0) rfl
          have x0' := rX.cell (i := 0) rfl
          have x1' := rX.cell (i := 1) rfl
          have hfree : ∀ y ∈ hv, ∀ g, y.2.ownBlock = some g → (Value.slice so ps.length sc).ownBlock ≠ some g := by
            intro y hy g hg e
            have q1 := ((own.each y hy).lt g hg).2
            have q2 := (pown.lt g e).1
            omega
          have HG : Hid (hdat (hv ++ [(⟨j, ps⟩, Value.slice so ps.length sc)]) = idPings (j + 1) a1.toNat) := by
            show _ = _
            rw [hdat_snoc, hbg.out, idPings_snoc, hpt.out]
          have pown2 := owns_base pown (show w.heap.size + 3 ≤ _ by omega)
          clear rA rB rH own ke kei pown hbg rX hpt
          go_wp2_with (at_builtin; refine wpList_append_own _ rfl _ _ 28 rfl (w.heap.size + 3) 33 i0 (.agg #[.int .i64 0, .slice none 0 0]) 2 32 Tryz.underlying28 ii iz0 iz1 iz2 rfl (by decide) _ _ _ rfl (own2.row.alloc _) ⟨wr.heap.size, 0, none⟩ 1 1 [.int .i64 j, .slice so ps.length sc] rfl rfl ?c221 ?c22 ?c23 ?c24 ?c25 ?_)
          case c22 => exact ⟨rfl, rfl⟩
          case c23 => have := hvl.out; unfold maxLen; omega
          case c24 => have := hvl.out; omega
          case c25 => first | omega | (simp; omega)
          intro v' w7 hown' hgrow _
          have own7 : OwnHint w7 (w.heap.size + 3) v' (hv ++ [(⟨j, ps⟩, .slice so ps.length sc)]) := (own2.alloc _).snoc (x := ⟨j, ps⟩) (pown2.alloc _) hfree hgrow hown'
          have hb7 := (((Below.refl (w.heap.size + 3) wr).alloc hzl _).grown hgrow (by simp; omega) (fun g hg => (own2.row.lt g hg).1))
          have rA7 := rA2.below hb7 (by omega)
          have rB7 := rB2.below hb7 (by omega)
          have rH7 := rH2.below hb7 (by omega)
          have ke7 := ke2.below hb7 (by omega)
          have hz7 := hb7.size
          have y4 := rH7.cell (i := 0) rfl
          have yf := rH7.frozen 0
          obtain ⟨bo', bc', hv'⟩ := owns_slice own7.row
          rw [List.length_append] at hv'
          simp only [List.length_cons, List.length_nil, Nat.zero_add] at hv'
          subst hv'
          have rH8 := rH7.set 0 (.slice bo' (hv.length + 1) bc')
          have rA8 := rA7.unset (a := ⟨(w.heap.size + 2), 0, none⟩) (by show w.heap.size + 1 ≠ w.heap.size + 2; omega) (.slice bo' (hv.length + 1) bc')
          have rB8 := rB7.unset (a := ⟨(w.heap.size + 2), 0, none⟩) (by show w.heap.size ≠ w.heap.size + 2; omega) (.slice bo' (hv.length + 1) bc')
          have ke8 := ke7.setCell (p := ⟨(w.heap.size + 2), 0, none⟩) (.inr (by show w.heap.size ≤ w.heap.size + 2; omega)) (.slice bo' (hv.length + 1) bc')
          have own8 := own7.set (a := ⟨(w.heap.size + 2), 0, none⟩) (by show w.heap.size + 2 < w.heap.size + 3; omega) (.slice bo' (hv.length + 1) bc')
          clear hgrow hown' hb7 rA2 rB2 rH2 own2 ke2 h0 x0' x1' rA7 rB7 rH7 ke7 own7 pown2 hfree d1
          go_wp2
          go_roundw
          case rel => exact ⟨j + 1, _, _, by omega, by go_num, by show List.length _ = _; have := hvl.out; simp; exact this, HG, rB8, rA8, rH8, own8, ke8, by simp; omega⟩
          case measure => simp [intOf]; omega
    · obtain rfl : j = nb := by omega
      have b0 := rH.cell (i := 0) rfl
      have a0' := rA.cell (i := 0) rfl
      have f0 := rA.frozen 0
      have HF : Hid (Post (.returned (.agg #[.slice bo hv.length bc])) (w1.setCell ⟨w.heap.size + 1, 0, none⟩ (.slice bo hv.length bc))) :=
        hp (.slice bo hv.length bc) hv _ hbg ((own.set (by simp) _).base (by omega)) ((ke.setCell (.inr (by simp)) _).toBelow (Nat.le_refl _) (fun g hg => hg.elim))
      clear hp own ke rA rH rB
      go_wp2
      exact bodyPost_ret (v := .agg #[.slice bo hv.length bc]) (by simp [results, Tryz.results15, go_sem, a0']) rfl HF.out

end Go.Proofs.YtblhmeidbjigaabGreatDoor

/- The reference's terms: Show. -/
set_option linter.unusedSimpArgs false
set_option linter.unusedVariables false
namespace Go.Proofs.YtblhmeidbjigaabGreatDoor
open Go.RowKit

theorem show_size {t : TD} (h : t.fine) (hs : t.size ≤ 4000000000000) : (str (showT t)).size ≤ 96000000000000 := by
  have := show_length h
  simp only [str, ByteArray.size, List.size_toArray]
  omega

theorem show_two (k : Int) (a b : TD) : (⟨#[40]⟩ : ByteArray) ++ str [signT k] ++ ⟨#[32]⟩ ++ str (showT a) ++ ⟨#[32]⟩ ++ str (showT b) ++ ⟨#[41]⟩ = str (showT (.two k a b)) := by
  show str [40] ++ str [signT k] ++ str [32] ++ str (showT a) ++ str [32] ++ str (showT b) ++ str [41] = _
  simp only [str_append, showT]
  congr 1
  simp

theorem show_three (k : Int) (a b c : TD) : (⟨#[40]⟩ : ByteArray) ++ str [signT k] ++ ⟨#[32]⟩ ++ str (showT a) ++ ⟨#[32]⟩ ++ str (showT b) ++ ⟨#[32]⟩ ++ str (showT c) ++ ⟨#[41]⟩ = str (showT (.three k a b c)) := by
  show str [40] ++ str [signT k] ++ str [32] ++ str (showT a) ++ str [32] ++ str (showT b) ++ str [32] ++ str (showT c) ++ str [41] = _
  simp only [str_append, showT]
  congr 1
  simp

theorem itoa_size {n : Int} (h : W64 n) : (str (Lib.itoa n)).size ≤ 21 := by
  have := Lib.itoa_length_le n h.1 h.2
  simp only [str, ByteArray.size, List.size_toArray]
  omega

end Go.Proofs.YtblhmeidbjigaabGreatDoor

/- The reference's terms: Same, turns, plus, thing, Apart. -/
set_option linter.unusedSimpArgs false
set_option linter.unusedVariables false
namespace Go.Proofs.YtblhmeidbjigaabGreatDoor
open Go.RowKit

noncomputable def sameT (t u : TD) : Bool := @decide (t = u) (Classical.propDecidable _)

theorem sameT_self (t : TD) : sameT t t = true := by unfold sameT; simp
theorem sameT_ne {t u : TD} (h : t ≠ u) : sameT t u = false := by unfold sameT; simp [h]
theorem sameT_iff (t u : TD) : sameT t u = true ↔ t = u := by unfold sameT; simp

end Go.Proofs.YtblhmeidbjigaabGreatDoor

/- The reference's terms: turns, plus, thing, Apart. -/
set_option linter.unusedSimpArgs false
set_option linter.unusedVariables false
namespace Go.Proofs.YtblhmeidbjigaabGreatDoor
open Go.RowKit

theorem turnsT_eq (k : Int) : turnsT k = true ↔ (k = 3 ∨ k = 5 ∨ k = 6 ∨ k = 7 ∨ k = 8 ∨ k = 10) := by unfold turnsT; simp

theorem turnsT_no {k : Int} (h : ¬ (k = 3 ∨ k = 5 ∨ k = 6 ∨ k = 7 ∨ k = 8 ∨ k = 10)) : turnsT k = false := by unfold turnsT; simpa using h

theorem apartT_iff (u v : TD) : apartT u v = true ↔ (thingT u).1 = (thingT v).1 ∧ (thingT u).2 ≠ (thingT v).2 := by unfold apartT; simp

theorem apartT_no {u v : TD} (h : ¬ ((thingT u).1 = (thingT v).1 ∧ (thingT u).2 ≠ (thingT v).2)) : apartT u v = false := by
  cases e : apartT u v with
  | false => rfl
  | true => exact absurd ((apartT_iff u v).1 e) h

end Go.Proofs.YtblhmeidbjigaabGreatDoor

/- The reference's terms: Made. -/
set_option linter.unusedSimpArgs false
set_option linter.unusedVariables false
namespace Go.Proofs.YtblhmeidbjigaabGreatDoor
open Go.RowKit

theorem made_num {kind a b : Int} {u v : TD} (hu : u.isNum = some a) (hv : v.isNum = some b) (h : ¬ (kind = 11 ∧ b = 0)) : madeT kind u v = tnum (calcW kind a b) := by
  simp only [madeT, hu, hv, if_neg h]

theorem made_div0 {kind a b : Int} {u v : TD} (hu : u.isNum = some a) (hv : v.isNum = some b) (h : kind = 11 ∧ b = 0) : madeT kind u v = rowT kind u v := by
  simp only [madeT, hu, hv, if_pos h]

theorem made_left {kind a : Int} {u v : TD} (hu : u.isNum = some a) (hv : v.isNum = none) : madeT kind u v = if turnsT kind = true then rowT kind v u else rowT kind u v := by
  simp only [madeT, hu, hv]

theorem made_right {kind b : Int} {u v : TD} (hu : u.isNum = none) (hv : v.isNum = some b) : madeT kind u v = rowT kind u v := by
  simp only [madeT, hu, hv]

theorem made_over {kind : Int} {u v : TD} (hu : u.isNum = none) (hv : v.isNum = none) (h : turnsT kind = true ∧ showT v < showT u) : madeT kind u v = rowT kind v u := by
  simp only [madeT, hu, hv, if_pos h]

theorem made_stay {kind : Int} {u v : TD} (hu : u.isNum = none) (hv : v.isNum = none) (h : ¬ (turnsT kind = true ∧ showT v < showT u)) : madeT kind u v = rowT kind u v := by
  simp only [madeT, hu, hv, if_neg h]

theorem bytesLess_lt : ∀ (x y : List UInt8), Op.bytesLess x y = true ↔ x < y
  | [], [] => by simp [Op.bytesLess]
  | _ :: _, [] => by simp [Op.bytesLess]
  | [], _ :: _ => by simp [Op.bytesLess]
  | a :: x, b :: y => by
    rw [Op.bytesLess, List.cons_lt_cons_iff]
    simp [bytesLess_lt x y]

theorem less_show (u v : TD) : Op.bytesLess (str (showT v)).toList (str (showT u)).toList = true ↔ showT v < showT u := by
  simp only [str, ByteArray.toList_mk]
  exact bytesLess_lt _ _

end Go.Proofs.YtblhmeidbjigaabGreatDoor

/- The reference's terms: Read, left, laid, Written. -/
set_option linter.unusedSimpArgs false
set_option linter.unusedVariables false
namespace Go.Proofs.YtblhmeidbjigaabGreatDoor
open Go.RowKit

theorem read_same {c a v u : TD} (h : a = u) : readT (.three 13 c a v) u = v := by rw [readT, if_pos h]
theorem read_far {c a v u : TD} (h : a ≠ u) (h2 : apartT a u = true) : readT (.three 13 c a v) u = readT c u := by rw [readT, if_neg h, if_pos h2]
theorem read_near {c a v u : TD} (h : a ≠ u) (h2 : apartT a u = false) : readT (.three 13 c a v) u = .two 12 (.three 13 c a v) u := by rw [readT, if_neg h, if_neg (by rw [h2]; simp)]
theorem read_else {m u : TD} (h : m.kind ≠ 13) : readT m u = .two 12 m u := by
  cases m with
  | leaf k n => rfl
  | two k a b => rfl
  | three k a b c =>
    simp only [TD.kind] at h
    unfold readT
    split
    · rename_i e; cases e; exact absurd rfl h
    · rfl

theorem left_same {c a v u : TD} (h : a = u) : leftT (.three 13 c a v) u = c := by rw [leftT, if_pos h]
theorem left_far {c a v u : TD} (h : a ≠ u) (h2 : apartT a u = true) : leftT (.three 13 c a v) u = .three 13 (leftT c u) a v := by rw [leftT, if_neg h, if_pos h2]
theorem left_near {c a v u : TD} (h : a ≠ u) (h2 : apartT a u = false) : leftT (.three 13 c a v) u = .three 13 c a v := by rw [leftT, if_neg h, if_neg (by rw [h2]; simp)]
theorem left_else {m u : TD} (h : m.kind ≠ 13) : leftT m u = m := by
  cases m with
  | leaf k n => rfl
  | two k a b => rfl
  | three k a b c =>
    simp only [TD.kind] at h
    unfold leftT
    split
    · rename_i e; cases e; exact absurd rfl h
    · rfl

theorem laid_over {c a w u v : TD} {n k : Int} (hu : u.isNum = some n) (ha : a.isNum = some k) (h : k > n) : laidT (.three 13 c a w) u v = .three 13 (laidT c u v) a w := by
  rw [laidT]; simp only [hu, ha, if_pos h]
theorem laid_else {m u v : TD} (h : ¬ ∃ c a w n k, m = .three 13 c a w ∧ u.isNum = some n ∧ a.isNum = some k ∧ k > n) : laidT m u v = .three 13 m u v := by
  cases m with
  | leaf k n => rfl
  | two k a b => rfl
  | three k a b c =>
    by_cases hk : k = 13
    · subst hk
      rw [laidT]
      split
      · rename_i n q e1 e2
        by_cases hq : q > n
        · exact absurd ⟨a, b, c, n, q, rfl, e1, e2, hq⟩ h
        · rw [if_neg hq]
      · rfl
    · unfold laidT
      split
      · rename_i e; cases e; exact absurd rfl hk
      · rfl

end Go.Proofs.YtblhmeidbjigaabGreatDoor
