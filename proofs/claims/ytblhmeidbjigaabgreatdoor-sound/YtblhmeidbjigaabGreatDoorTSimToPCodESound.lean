/- A block's terms, worked out, are what its run leaves: pure. -/
import Derived.Test.YtblhmeidbjigaabGreatDoorRows
import Derived.WalkKit
import Derived.WalkSpells
import Derived.WalkLawsBesides
import Derived.Laws.BytesArg
import Derived.Deep.QuietTactic
import Derived.BigQuiet
import Derived.Deep.RegionHeld3
import Derived.Lib.ItoaNum
import Derived.Lib.ItoaLen
import Derived.OpenShut
import Derived.Maps.AppendAt
import Derived.Shelf.Strconv.Itoa3
import Derived.Shelf.Lay
import Derived.Ground.NamesProg
import Derived.Lib.SmallJoins
import Derived.ProofKit
import Derived.LaidMore
import Derived.Stop.Joined
import Derived.Stop.LaidErr
import Derived.Test.YtblhmeidbjigaabGreatDoorTMadeToMDatSound

set_option linter.unusedSimpArgs false
set_option linter.unusedVariables false
noncomputable section
namespace Go.Proofs.YtblhmeidbjigaabGreatDoor
open Go.RowKit Classical

theorem rg_st {l : List Int} {a : Int} (ha : 0 ≤ a ∧ a < l.length) (v : Int) {i : Int} (hi : 0 ≤ i) : rg (stI l a v) i = if i = a then v else rg l i := by
  unfold rg stI
  by_cases e : i = a
  · subst e
    rw [if_pos rfl]
    simp [List.getD, show i.toNat < l.length by omega]
  · rw [if_neg e]
    simp only [List.getD]
    rw [List.getElem?_set_ne (by omega)]

theorem firstT_fine {names : List Int} (hn : ∀ x ∈ names, x ≤ 1000) {place : Int} (hp : 0 ≤ place ∧ place ≤ 1000) : (firstT names place).fine := by
  unfold firstT
  split
  · exact ⟨.inr (.inr (.inr ⟨rfl, rfl⟩)), w64_small (by omega)⟩
  · split
    · exact ⟨.inr (.inr (.inl rfl)), w64_small (by omega)⟩
    · rename_i h1 h2
      have hm : names.getD place.toNat 0 ∈ names := getD_mem' (by omega)
      have := hn _ hm
      exact ⟨.inr (.inl rfl), w64_small (by omega)⟩

/-- The fields of a good operation. -/
theorem good_fields {regs slots : Int} {o : OpD} (h : opGood regs slots o = true) :
    (o.kind = 1 ∧ (0 ≤ o.a ∧ o.a < regs) ∧ (0 ≤ o.b ∧ o.b < 256) ∧ (0 ≤ o.c ∧ o.c < 256)) ∨
    ((o.kind = 2 ∨ o.kind = 12 ∨ o.kind = 13) ∧ (0 ≤ o.a ∧ o.a < regs) ∧ (0 ≤ o.b ∧ o.b < regs)) ∨
    ((3 ≤ o.kind ∧ o.kind ≤ 11) ∧ (0 ≤ o.a ∧ o.a < regs) ∧ (0 ≤ o.b ∧ o.b < regs) ∧ (0 ≤ o.c ∧ o.c < regs)) ∨
    (o.kind = 14 ∧ (0 ≤ o.a ∧ o.a < slots) ∧ (0 ≤ o.b ∧ o.b < regs)) ∨
    (o.kind = 15 ∧ (0 ≤ o.a ∧ o.a < regs) ∧ (0 ≤ o.b ∧ o.b < slots)) := by
  unfold opGood at h
  repeat' split at h
  all_goals simp [below] at h
  all_goals omega

theorem opsGood_getD {regs slots : Int} {ops : List OpD} (h : opsGood regs slots ops = true) {k : Nat} (hk : k < ops.length) : opGood regs slots (ops.getD k oz) = true :=
  List.all_eq_true.1 h _ (getD_mem' hk)

theorem behindT_fine {regs slots : Int} {names : List Int} {ops : List OpD} (hr : 0 ≤ regs ∧ regs ≤ 100) (hs : 0 ≤ slots ∧ slots ≤ 100) (hn : ∀ x ∈ names, x ≤ 1000) (hg : opsGood regs slots ops = true) :
    ∀ (k : Nat), k ≤ ops.length → ∀ place : Int, 0 ≤ place → place ≤ regs + slots → (behindT regs slots names ops k place).fine := by
  intro k
  induction k with
  | zero => intro _ place h0 h1; exact firstT_fine hn ⟨h0, by omega⟩
  | succ k ih =>
    intro hk place h0 h1
    have ih := ih (by omega)
    have hf := good_fields (opsGood_getD hg (show k < ops.length by omega))
    simp only [behindT]
    generalize ops.getD k oz = o at *
    repeat' split
    · exact ih place h0 h1
    · exact tnum_fine (w64_small (by omega))
    · exact ih _ (by omega) (by omega)
    · exact ih _ (by omega) (by omega)
    · exact readT_fine _ _ (ih _ (by omega) (by omega)) (ih _ (by omega) (by omega))
    · exact writtenT_fine _ _ _ (ih _ (by omega) (by omega)) (ih _ (by omega) (by omega)) (ih _ (by omega) (by omega))
    · exact madeT_fine (by omega) (ih _ (by omega) (by omega)) (ih _ (by omega) (by omega))

/-- Behind k operations the terms stand for what the run has come to. -/
structure Holds (r : EnvD) (regs slots data : Int) (names : List Int) (ops : List OpD) (k : Nat) (s : RunD) : Prop where
  reg : ∀ i : Int, 0 ≤ i → i < regs → evW r (behindT regs slots names ops k i) = rg s.regs i
  slot : ∀ j : Int, 0 ≤ j → j < slots → evW r (behindT regs slots names ops k (regs + j)) = rg s.slots j
  cell : ∀ n : Int, 0 ≤ n → n < data → evM r (behindT regs slots names ops k (regs + slots)) n = rg s.cells n

/-- An operation that writes a register. -/
theorem Holds.toReg {r : EnvD} {regs slots data : Int} {names : List Int} {ops : List OpD} {k : Nat} {s s' : RunD} (h : Holds r regs slots data names ops k s) (hs : 0 ≤ slots) {a v : Int} (ha : 0 ≤ a ∧ a < regs) (hl : (s.regs.length : Int) = regs)
    (he : s'.regs = stI s.regs a v ∧ s'.slots = s.slots ∧ s'.cells = s.cells)
    (hb : ∀ place, place ≠ a → behindT regs slots names ops (k + 1) place = behindT regs slots names ops k place) (hv : evW r (behindT regs slots names ops (k + 1) a) = v) : Holds r regs slots data names ops (k + 1) s' := by
  obtain ⟨e1, e2, e3⟩ := he
  refine ⟨fun i h0 h1 => ?_, fun j h0 h1 => ?_, fun n h0 h1 => ?_⟩
  · rw [e1, rg_st (by omega) v h0]
    split
    · rename_i e; subst e; exact hv
    · rename_i e; rw [hb i e]; exact h.reg i h0 h1
  · rw [e2, hb _ (by omega)]; exact h.slot j h0 h1
  · rw [e3, hb _ (by omega)]; exact h.cell n h0 h1

theorem behindT_succ (regs slots : Int) (names : List Int) (ops : List OpD) (k : Nat) (place : Int) : behindT regs slots names ops (k + 1) place =
    if writesT regs slots (ops.getD k oz) ≠ place then behindT regs slots names ops k place
    else if (ops.getD k oz).kind = 1 then tnum (256 * (ops.getD k oz).b + (ops.getD k oz).c - 32768)
    else if (ops.getD k oz).kind = 2 ∨ (ops.getD k oz).kind = 14 then behindT regs slots names ops k (ops.getD k oz).b
    else if (ops.getD k oz).kind = 15 then behindT regs slots names ops k (regs + (ops.getD k oz).b)
    else if (ops.getD k oz).kind = 12 then readT (behindT regs slots names ops k (regs + slots)) (behindT regs slots names ops k (ops.getD k oz).b)
    else if (ops.getD k oz).kind = 13 then writtenT (behindT regs slots names ops k (regs + slots)) (behindT regs slots names ops k (ops.getD k oz).a) (behindT regs slots names ops k (ops.getD k oz).b)
    else madeT (ops.getD k oz).kind (behindT regs slots names ops k (ops.getD k oz).b) (behindT regs slots names ops k (ops.getD k oz).c) := rfl

theorem Holds.step {r : EnvD} (hw : r.wide) {regs slots data : Int} {names : List Int} {ops : List OpD} {k : Nat} {s : RunD} (h : Holds r regs slots data names ops k s) (hr : 0 ≤ regs ∧ regs ≤ 100) (hs : 0 ≤ slots ∧ slots ≤ 100) (hn : ∀ x ∈ names, x ≤ 1000) (hg : opsGood regs slots ops = true) (hk : k < ops.length)
    (hz : Sized s regs data slots) (ht : (stepOp s (ops.getD k oz)).trap = 0) : Holds r regs slots data names ops (k + 1) (stepOp s (ops.getD k oz)) := by
  have hf := good_fields (opsGood_getD hg hk)
  have fine := behindT_fine hr hs hn hg k (by omega)
  have hbt := behindT_succ regs slots names ops k
  obtain ⟨zr, zc, zs⟩ := hz
  generalize ops.getD k oz = o at *
  rcases hf with ⟨k1, fa, fb, fc⟩ | ⟨k2, fa, fb⟩ | ⟨k3, fa, fb, fc⟩ | ⟨k4, fa, fb⟩ | ⟨k5, fa, fb⟩
  · have hwr : writesT regs slots o = o.a := by simp [writesT, k1]
    refine h.toReg hs.1 fa zr (v := 256 * o.b + o.c - 32768) ⟨by simp [stepOp, k1, RunD.reg], by simp [stepOp, k1, RunD.reg], by simp [stepOp, k1, RunD.reg]⟩ (fun place hp => ?_) ?_
    · rw [hbt, hwr, if_pos (Ne.symm hp)]
    · rw [hbt, hwr, if_neg (by simp), if_pos k1, ev_num]
  · rcases k2 with k2 | k2 | k2
    · have hwr : writesT regs slots o = o.a := by simp [writesT, k2]
      refine h.toReg hs.1 fa zr (v := rg s.regs o.b) ⟨by simp [stepOp, k2, RunD.reg], by simp [stepOp, k2, RunD.reg], by simp [stepOp, k2, RunD.reg]⟩ (fun place hp => ?_) ?_
      · rw [hbt, hwr, if_pos (Ne.symm hp)]
      · rw [hbt, hwr, if_neg (by simp), if_neg (by omega), if_pos (.inl k2)]
        exact h.reg _ fb.1 fb.2
    · have hwr : writesT regs slots o = o.a := by simp [writesT, k2]
      have hin : 0 ≤ rg s.regs o.b ∧ rg s.regs o.b < s.cells.length := by
        rcases Classical.em (0 ≤ rg s.regs o.b ∧ rg s.regs o.b < s.cells.length) with q | q
        · exact q
        · exfalso
          have e : stepOp s o = (s.out (rg s.regs o.b)).die 2 := by unfold stepOp; rw [if_neg (by omega), if_neg (by omega), if_pos k2, if_neg q]
          rw [e] at ht
          simp [RunD.die] at ht
      have hst : stepOp s o = (s.out (rg s.regs o.b)).reg o.a (rg s.cells (rg s.regs o.b)) := by unfold stepOp; rw [if_neg (by omega), if_neg (by omega), if_pos k2, if_pos hin]
      refine h.toReg hs.1 fa zr (v := rg s.cells (rg s.regs o.b)) ⟨by rw [hst]; rfl, by rw [hst]; rfl, by rw [hst]; rfl⟩ (fun place hp => ?_) ?_
      · rw [hbt, hwr, if_pos (Ne.symm hp)]
      · rw [hbt, hwr, if_neg (by simp), if_neg (by omega), if_neg (by omega), if_neg (by omega), if_pos k2]
        rw [ev_read hw _ _ (fine _ (by omega) (by omega)) (fine _ (by omega) (by omega)), h.reg _ fb.1 fb.2]
        exact h.cell _ hin.1 (by omega)
    · have hwr : writesT regs slots o = regs + slots := by simp [writesT, k2]
      have hin : 0 ≤ rg s.regs o.a ∧ rg s.regs o.a < s.cells.length := by
        rcases Classical.em (0 ≤ rg s.regs o.a ∧ rg s.regs o.a < s.cells.length) with q | q
        · exact q
        · exfalso
          have e : stepOp s o = (s.out (rg s.regs o.a)).die 2 := by unfold stepOp; rw [if_neg (by omega), if_neg (by omega), if_neg (by omega), if_pos k2, if_neg q]
          rw [e] at ht
          simp [RunD.die] at ht
      have hst : stepOp s o = (s.out (rg s.regs o.a)).cell (rg s.regs o.a) (rg s.regs o.b) := by unfold stepOp; rw [if_neg (by omega), if_neg (by omega), if_neg (by omega), if_pos k2, if_pos hin]
      rw [hst]
      refine ⟨fun i h0 h1 => ?_, fun j h0 h1 => ?_, fun n h0 h1 => ?_⟩
      · rw [hbt, hwr, if_pos (by omega)]; exact h.reg i h0 h1
      · rw [hbt, hwr, if_pos (by omega)]; exact h.slot j h0 h1
      · rw [hbt, hwr, if_neg (by simp), if_neg (by omega), if_neg (by omega), if_neg (by omega), if_neg (by omega), if_pos k2]
        rw [ev_written hw _ _ _ (fine _ (by omega) (by omega)) (fine _ (by omega) (by omega)), h.reg _ fa.1 fa.2, h.reg _ fb.1 fb.2, h.cell n h0 h1]
        show _ = rg (stI s.cells (rg s.regs o.a) (rg s.regs o.b)) n
        rw [rg_st hin _ h0]
  · have hwr : writesT regs slots o = o.a := by unfold writesT; rw [if_neg (by omega), if_neg (by omega)]
    have he : (stepOp s o).regs = stI s.regs o.a (calcW o.kind (rg s.regs o.b) (rg s.regs o.c)) ∧ (stepOp s o).slots = s.slots ∧ (stepOp s o).cells = s.cells := by
      by_cases h11 : o.kind = 11
      · have hy : rg s.regs o.c ≠ 0 := by
          intro q
          have e : stepOp s o = ((s.out (rg s.regs o.b)).out (rg s.regs o.c)).die 3 := by unfold stepOp; rw [if_neg (by omega), if_neg (by omega), if_neg (by omega), if_neg (by omega), if_neg (by omega), if_neg (by omega), if_pos h11, if_pos q]
          rw [e] at ht
          simp [RunD.die] at ht
        have e : stepOp s o = ((s.out (rg s.regs o.b)).out (rg s.regs o.c)).reg o.a (calcW 11 (rg s.regs o.b) (rg s.regs o.c)) := by unfold stepOp; rw [if_neg (by omega), if_neg (by omega), if_neg (by omega), if_neg (by omega), if_neg (by omega), if_neg (by omega), if_pos h11, if_neg hy]
        rw [e, h11]
        exact ⟨rfl, rfl, rfl⟩
      · have e : stepOp s o = s.reg o.a (calcW o.kind (rg s.regs o.b) (rg s.regs o.c)) := by unfold stepOp; rw [if_neg (by omega), if_neg (by omega), if_neg (by omega), if_neg (by omega), if_neg (by omega), if_neg (by omega), if_neg h11]
        rw [e]
        exact ⟨rfl, rfl, rfl⟩
    refine h.toReg hs.1 fa zr he (fun place hp => ?_) ?_
    · rw [hbt, hwr, if_pos (Ne.symm hp)]
    · rw [hbt, hwr, if_neg (by simp), if_neg (by omega), if_neg (by omega), if_neg (by omega), if_neg (by omega), if_neg (by omega)]
      rw [ev_made hw k3 (fine _ (by omega) (by omega)) (fine _ (by omega) (by omega)), h.reg _ fb.1 fb.2, h.reg _ fc.1 fc.2]
  · have hwr : writesT regs slots o = regs + o.a := by simp [writesT, k4]
    have hst : stepOp s o = s.slot o.a (rg s.regs o.b) := by unfold stepOp; rw [if_neg (by omega), if_neg (by omega), if_neg (by omega), if_neg (by omega), if_pos k4]
    rw [hst]
    refine ⟨fun i h0 h1 => ?_, fun j h0 h1 => ?_, fun n h0 h1 => ?_⟩
    · rw [hbt, hwr, if_pos (by omega)]; exact h.reg i h0 h1
    · show _ = rg (stI s.slots o.a (rg s.regs o.b)) j
      rw [rg_st (by omega) _ h0]
      split
      · rename_i e; subst e
        rw [hbt, hwr, if_neg (by simp), if_neg (by omega), if_pos (.inr k4)]
        exact h.reg _ fb.1 fb.2
      · rw [hbt, hwr, if_pos (by omega)]; exact h.slot j h0 h1
    · rw [hbt, hwr, if_pos (by omega)]; exact h.cell n h0 h1
  · have hwr : writesT regs slots o = o.a := by simp [writesT, k5]
    have hst : stepOp s o = s.reg o.a (rg s.slots o.b) := by unfold stepOp; rw [if_neg (by omega), if_neg (by omega), if_neg (by omega), if_neg (by omega), if_neg (by omega), if_pos k5]
    refine h.toReg hs.1 fa zr (v := rg s.slots o.b) ⟨by rw [hst]; rfl, by rw [hst]; rfl, by rw [hst]; rfl⟩ (fun place hp => ?_) ?_
    · rw [hbt, hwr, if_pos (Ne.symm hp)]
    · rw [hbt, hwr, if_neg (by simp), if_neg (by omega), if_neg (by omega), if_pos k5]
      exact h.slot _ fb.1 fb.2

/-- A block that does not trap: its terms stand for what the run leaves. -/
theorem Holds.all {r : EnvD} (hw : r.wide) {regs slots data : Int} {names : List Int} {ops : List OpD} {s : RunD} (h : Holds r regs slots data names ops 0 s) (hr : 0 ≤ regs ∧ regs ≤ 100) (hs : 0 ≤ slots ∧ slots ≤ 100) (hn : ∀ x ∈ names, x ≤ 1000) (hg : opsGood regs slots ops = true)
    (hz : Sized s regs data slots) : ∀ k, k ≤ ops.length → (doOps (ops.take k) s).trap = 0 → Holds r regs slots data names ops k (doOps (ops.take k) s) := by
  intro k
  induction k with
  | zero => intro _ _; exact h
  | succ k ih =>
    intro hk ht
    have e := doOps_take (show k < ops.length by omega) s
    have ho : (⟨okind ops k, oa ops k, ob ops k, oc ops k⟩ : OpD) = ops.getD k oz := rfl
    rw [ho] at e
    by_cases h0 : (doOps (ops.take k) s).trap = 0
    · rw [if_pos h0] at e
      rw [e] at ht ⊢
      exact (ih (by omega) h0).step hw hr hs hn hg (by omega) (hz.doOps _) ht
    · rw [if_neg h0] at e
      rw [e] at ht
      exact absurd ht h0

end Go.Proofs.YtblhmeidbjigaabGreatDoor

/- How great terms become: pure. -/
set_option linter.unusedSimpArgs false
set_option linter.unusedVariables false
noncomputable section
namespace Go.Proofs.YtblhmeidbjigaabGreatDoor
open Go.RowKit Classical

theorem addN_size : ∀ (u : TD) (k : Int), (addN u k).size ≤ u.size + 2 := by
  intro u
  induction u with
  | leaf q n =>
    intro k
    simp only [addN]
    repeat' split
    all_goals simp only [tnum, TD.size]; omega
  | two q a b iha ihb =>
    intro k
    simp only [addN]
    split
    · omega
    · split
      · rename_i m _
        have h1 := iha (wrap64 (m + k))
        simp only [TD.size]
        omega
      · simp only [tnum, TD.size]; omega
  | three q a b c =>
    intro k
    simp only [addN]
    split
    · omega
    · simp only [tnum, TD.size]; omega

theorem besideT_size {kind n : Int} {u t : TD} (h : besideT kind u n = some t) : t.size ≤ u.size + 2 := by
  have hp := u.size_pos
  unfold besideT at h
  repeat' split at h
  all_goals first
    | (cases h; done)
    | (simp only [Option.some.injEq] at h; subst h; first | omega | exact addN_size _ _ | (simp only [tnum, TD.size]; omega))
    | skip
  cases hu : u.isPlus with
  | none => rw [hu] at h; cases h
  | some p =>
    obtain ⟨a, m⟩ := p
    rw [hu] at h
    simp only [Option.map_some, Option.some.injEq] at h
    subst h
    have e := isPlus_some hu
    subst e
    have := addN_size a (wrap64 (m + n))
    simp only [tnum, TD.size]
    omega

theorem rowT_size (kind : Int) (u v : TD) : (rowT kind u v).size ≤ 1 + u.size + v.size := by
  have hu := u.size_pos
  have hv := v.size_pos
  unfold rowT
  split
  · rename_i t ht
    cases hn : v.isNum with
    | none => rw [hn] at ht; cases ht
    | some n =>
      rw [hn] at ht
      have := besideT_size (by simpa using ht)
      omega
  · repeat' split
    all_goals (try simp only [tnum, TD.size]); omega

theorem madeT_size (kind : Int) (u v : TD) : (madeT kind u v).size ≤ 1 + u.size + v.size := by
  have h1 := rowT_size kind u v
  have h2 := rowT_size kind v u
  have hu := u.size_pos
  unfold madeT
  repeat' split
  all_goals (try simp only [tnum, TD.size]); omega

theorem readT_size (m u : TD) : (readT m u).size ≤ 1 + m.size + u.size := by
  induction m with
  | leaf k n => simp only [readT, TD.size]; omega
  | two k a b => simp only [readT, TD.size]; omega
  | three k c a v ihc iha ihv =>
    by_cases hk : k = 13
    · subst hk
      simp only [readT]
      repeat' split
      all_goals (try simp only [TD.size] at *); omega
    · have e : readT (.three k c a v) u = .two 12 (.three k c a v) u := by
        unfold readT
        split
        · rename_i h; cases h; exact absurd rfl hk
        · rfl
      rw [e]
      simp only [TD.size]
      omega

theorem leftT_size (m u : TD) : (leftT m u).size ≤ m.size := by
  induction m with
  | leaf k n => simp only [leftT]; omega
  | two k a b => simp only [leftT]; omega
  | three k c a v ihc iha ihv =>
    by_cases hk : k = 13
    · subst hk
      simp only [leftT]
      repeat' split
      all_goals (try simp only [TD.size] at *); omega
    · have e : leftT (.three k c a v) u = .three k c a v := by
        unfold leftT
        split
        · rename_i h; cases h; exact absurd rfl hk
        · rfl
      rw [e]
      omega

theorem laidT_size (m u v : TD) : (laidT m u v).size ≤ 1 + m.size + u.size + v.size := by
  induction m with
  | leaf k n => simp only [laidT, TD.size]; omega
  | two k a b => simp only [laidT, TD.size]; omega
  | three k c a w ihc iha ihw =>
    by_cases hk : k = 13
    · subst hk
      simp only [laidT]
      repeat' split
      all_goals (try simp only [TD.size] at *); omega
    · have e : laidT (.three k c a w) u v = .three 13 (.three k c a w) u v := by
        unfold laidT
        split
        · rename_i h; cases h; exact absurd rfl hk
        · rfl
      rw [e]
      simp only [TD.size]
      omega

theorem writtenT_size (m u v : TD) : (writtenT m u v).size ≤ 1 + m.size + u.size + v.size := by
  have h1 := leftT_size m u
  have h2 := laidT_size (leftT m u) u v
  unfold writtenT
  split <;> omega

/-- Behind k operations a term has at most so many parts. -/
def most : Nat → Nat
  | 0 => 1
  | k + 1 => 1 + 3 * most k

theorem most_pos (k : Nat) : 1 ≤ most k := by cases k <;> simp only [most] <;> omega

theorem behindT_size (regs slots : Int) (names : List Int) (ops : List OpD) : ∀ (k : Nat) (place : Int), (behindT regs slots names ops k place).size ≤ most k := by
  intro k
  induction k with
  | zero =>
    intro place
    simp only [behindT, firstT, most]
    repeat' split
    all_goals simp only [TD.size]; omega
  | succ k ih =>
    intro place
    have hp := most_pos k
    simp only [behindT, most]
    repeat' split
    · have := ih place; omega
    · simp only [tnum, TD.size]; omega
    · have := ih (ops.getD k oz).b; omega
    · have := ih (regs + (ops.getD k oz).b); omega
    · have h1 := readT_size (behindT regs slots names ops k (regs + slots)) (behindT regs slots names ops k (ops.getD k oz).b)
      have := ih (regs + slots)
      have := ih (ops.getD k oz).b
      omega
    · have h1 := writtenT_size (behindT regs slots names ops k (regs + slots)) (behindT regs slots names ops k (ops.getD k oz).a) (behindT regs slots names ops k (ops.getD k oz).b)
      have := ih (regs + slots)
      have := ih (ops.getD k oz).a
      have := ih (ops.getD k oz).b
      omega
    · have h1 := madeT_size (ops.getD k oz).kind (behindT regs slots names ops k (ops.getD k oz).b) (behindT regs slots names ops k (ops.getD k oz).c)
      have := ih (ops.getD k oz).b
      have := ih (ops.getD k oz).c
      omega

theorem most_mono {j k : Nat} (h : j ≤ k) : most j ≤ most k := by
  induction k with
  | zero => obtain rfl : j = 0 := (by omega); exact Nat.le_refl _
  | succ k ih =>
    by_cases e : j = k + 1
    · subst e; exact Nat.le_refl _
    · have := ih (by omega)
      simp only [most]
      omega

/-- A block of up to seven operations is never big. -/
theorem bigT_short {regs slots : Int} {names : List Int} {ops : List OpD} (h : ops.length ≤ 7) : bigT regs slots names ops = false := by
  unfold bigT
  rw [List.any_eq_false]
  intro k hk
  have hk' : k < ops.length := by simpa using hk
  simp only [decide_eq_true_eq]
  rintro ⟨_, _, h3⟩
  have h1 := behindT_size regs slots names ops (k + 1) (writesT regs slots (ops.getD k oz))
  have h2 := most_mono (show k + 1 ≤ 7 by omega)
  have h4 : most 7 = 3280 := by decide
  omega

end Go.Proofs.YtblhmeidbjigaabGreatDoor

/- Terms in memory: trees of blocks, which nobody writes into; strconv.Itoa and its table. -/
set_option linter.unusedSimpArgs false
set_option linter.unusedVariables false
namespace Go.Proofs
open Go.Shelf
shelf_lay LaysM.n171 Nm 171 at Tryz as Tryz.laysItoa
end Go.Proofs
namespace Go.Proofs.YtblhmeidbjigaabGreatDoor
open Go.RowKit Go.Shelf

/-- The library's table of the powers of ten lies as its initialiser lays it. -/
def TabW (w : World) : Prop := Lib.TabIs Tryz.prog w "internal/strconv.uint64pow10" .u64 Lib.pow10Tab

theorem tabGlobal : ∃ g, Tryz.prog.globalNamed "internal/strconv.uint64pow10" = some g :=
  Option.isSome_iff_exists.1 (show (Tryz.prog.globalNamed "internal/strconv.uint64pow10").isSome = true by kernel_rfl)

theorem TabW.keep {w w' : World} (h : TabW w) (hb : Below w.heap.size w w') : TabW w' :=
  let ⟨_, hg⟩ := tabGlobal
  Joins.tab_stays hg h hb (Nat.le_refl _)

theorem below_grown_it (w : World) (q : Nat) (os : Array Obj) : Below w.heap.size w (Sort.grow (w.drewN q) os) :=
  ⟨rfl, rfl, rfl, by first | (simp [Sort.grow]; done) | (simp [Sort.grow]; omega), fun i hi => by
    show ((w.drewN q).heap ++ os)[i]? = _
    rw [Array.getElem?_append_left (by show i < w.heap.size; omega)]
    rfl⟩

theorem itoa_any (n : Int) (hn : W64 n) (w : World) (ht : TabW w) :
    Calls Tryz.prog 90 #[.int .i64 n] w fun e w' => e = .returned (.string (str (Lib.itoa n))) ∧ Below w.heap.size w w' :=
  (Any.strconv_Itoa Tryz.laysItoa n hn.1 hn.2 w ht).mono fun e w' ⟨he, k, os, hw⟩ => ⟨he, by
    rw [hw]
    exact below_grown_it _ _ _⟩

end Go.Proofs.YtblhmeidbjigaabGreatDoor

/- What a row's listed tables give: the table of powers. -/
set_option linter.unusedSimpArgs false
set_option linter.unusedVariables false
namespace Go.Proofs.YtblhmeidbjigaabGreatDoor
open Go.ChangeShapes Go.WideShapes Go.ChangeAt Go.WideMaps Go.WideElems Go.RowKit

theorem Tryz.own : ownKnob Tryz.prog.godebug = none := by kernel_rfl
theorem Tryz.laidOut : laidOutB Tryz.prog = true := by kernel_rfl

theorem tab_at0 {W : World} {r : List (String × DataW Unit)} (h : laidMet Tryz.prog (("internal/strconv.uint64pow10", Lib.tabData .u64 Lib.pow10Tab) :: r) W) : TabW W :=
  Lib.tabIs_of_head (g := 0) (t := 233) (e := 223) (n := 20) (by kernel_rfl) (by kernel_rfl) Tryz.underlying233 Tryz.underlying223 (by kernel_rfl) (by kernel_rfl) h
theorem tab_at1 {W : World} {x : String × DataW Unit} {r : List (String × DataW Unit)} (h : laidMet Tryz.prog (x :: ("internal/strconv.uint64pow10", Lib.tabData .u64 Lib.pow10Tab) :: r) W) : TabW W := tab_at0 (laidMet.tail h)
theorem tab_at2 {W : World} {x y : String × DataW Unit} {r : List (String × DataW Unit)} (h : laidMet Tryz.prog (x :: y :: ("internal/strconv.uint64pow10", Lib.tabData .u64 Lib.pow10Tab) :: r) W) : TabW W := tab_at1 (laidMet.tail h)

end Go.Proofs.YtblhmeidbjigaabGreatDoor

/- Well made programs, in the codec. -/
set_option linter.unusedSimpArgs false
set_option linter.unusedVariables false
namespace Go.Proofs.YtblhmeidbjigaabGreatDoor
open Go.RowKit

theorem int_beq0 (c : Int) : (c == 0) = decide (c = 0) := by by_cases h : c = 0 <;> simp [h]

set_option maxRecDepth 100000 in
set_option maxHeartbeats 2000000 in
theorem wmOp1 (args regs data slots : Int) (bo : Option Addr) (bn bc : Nat) (a b c : Int) (w : World) :
    Calls Tryz.prog 138 #[.agg #[.int .i64 args, .int .i64 regs, .int .i64 data, .int .i64 slots, .slice bo bn bc], .agg #[.int .i64 1, .int .i64 a, .int .i64 b, .int .i64 c]] w fun e w' => e = .returned (.bool (opGood regs slots ⟨1, a, b, c⟩)) ∧ Below w.heap.size w w' := by
  cases h1 : below a regs
  · go_enter Tryz.func138, Tryz.ntmps138
    go_wp2_with (go_at_call 103; refine (isBelow_any _ _ _).mono ?_; rintro e w' ⟨rfl, rfl⟩)
    go_ret
    exact ⟨by simp [opGood, h1], ((Below.refl _ _).alloc (Nat.le_refl _) _).alloc (by simp) _⟩
  cases h2 : below b 256
  · go_enter Tryz.func138, Tryz.ntmps138
    go_wp2_with (go_at_call 103; refine (isBelow_any _ _ _).mono ?_; rintro e w' ⟨rfl, rfl⟩)
    go_ret
    exact ⟨by simp [opGood, h1, h2, int_beq0], ((Below.refl _ _).alloc (Nat.le_refl _) _).alloc (by simp) _⟩
  · go_enter Tryz.func138, Tryz.ntmps138
    go_wp2_with (go_at_call 103; refine (isBelow_any _ _ _).mono ?_; rintro e w' ⟨rfl, rfl⟩)
    go_ret
    exact ⟨by simp [opGood, h1, h2, int_beq0], ((Below.refl _ _).alloc (Nat.le_refl _) _).alloc (by simp) _⟩

set_option maxRecDepth 100000 in
set_option maxHeartbeats 2000000 in
theorem wmOp2 (args regs data slots : Int) (bo : Option Addr) (bn bc : Nat) (a b c : Int) (w : World) :
    Calls Tryz.prog 138 #[.agg #[.int .i64 args, .int .i64 regs, .int .i64 data, .int .i64 slots, .slice bo bn bc], .agg #[.int .i64 2, .int .i64 a, .int .i64 b, .int .i64 c]] w fun e w' => e = .returned (.bool (opGood regs slots ⟨2, a, b, c⟩)) ∧ Below w.heap.size w w' := by
  cases h1 : below a regs
  · go_enter Tryz.func138, Tryz.ntmps138
    go_wp2_with (go_at_call 103; refine (isBelow_any _ _ _).mono ?_; rintro e w' ⟨rfl, rfl⟩)
    go_ret
    exact ⟨by simp [opGood, h1], ((Below.refl _ _).alloc (Nat.le_refl _) _).alloc (by simp) _⟩
  cases h2 : below b regs
  · go_enter Tryz.func138, Tryz.ntmps138
    go_wp2_with (go_at_call 103; refine (isBelow_any _ _ _).mono ?_; rintro e w' ⟨rfl, rfl⟩)
    go_ret
    exact ⟨by simp [opGood, h1, h2, int_beq0], ((Below.refl _ _).alloc (Nat.le_refl _) _).alloc (by simp) _⟩
  · go_enter Tryz.func138, Tryz.ntmps138
    go_wp2_with (go_at_call 103; refine (isBelow_any _ _ _).mono ?_; rintro e w' ⟨rfl, rfl⟩)
    go_ret
    exact ⟨by simp [opGood, h1, h2, int_beq0], ((Below.refl _ _).alloc (Nat.le_refl _) _).alloc (by simp) _⟩

set_option maxRecDepth 100000 in
set_option maxHeartbeats 2000000 in
theorem wmOp3 (args regs data slots : Int) (bo : Option Addr) (bn bc : Nat) (a b c : Int) (w : World) :
    Calls Tryz.prog 138 #[.agg #[.int .i64 args, .int .i64 regs, .int .i64 data, .int .i64 slots, .slice bo bn bc], .agg #[.int .i64 3, .int .i64 a, .int .i64 b, .int .i64 c]] w fun e w' => e = .returned (.bool (opGood regs slots ⟨3, a, b, c⟩)) ∧ Below w.heap.size w w' := by
  cases h1 : below a regs
  · go_enter Tryz.func138, Tryz.ntmps138
    go_wp2_with (go_at_call 103; refine (isBelow_any _ _ _).mono ?_; rintro e w' ⟨rfl, rfl⟩)
    go_ret
    exact ⟨by simp [opGood, h1], ((Below.refl _ _).alloc (Nat.le_refl _) _).alloc (by simp) _⟩
  cases h2 : below b regs
  · go_enter Tryz.func138, Tryz.ntmps138
    go_wp2_with (go_at_call 103; refine (isBelow_any _ _ _).mono ?_; rintro e w' ⟨rfl, rfl⟩)
    go_ret
    exact ⟨by simp [opGood, h1, h2, int_beq0], ((Below.refl _ _).alloc (Nat.le_refl _) _).alloc (by simp) _⟩
  · go_enter Tryz.func138, Tryz.ntmps138
    go_wp2_with (go_at_call 103; refine (isBelow_any _ _ _).mono ?_; rintro e w' ⟨rfl, rfl⟩)
    go_ret
    exact ⟨by simp [opGood, h1, h2, int_beq0], ((Below.refl _ _).alloc (Nat.le_refl _) _).alloc (by simp) _⟩

set_option maxRecDepth 100000 in
set_option maxHeartbeats 2000000 in
theorem wmOp4 (args regs data slots : Int) (bo : Option Addr) (bn bc : Nat) (a b c : Int) (w : World) :
    Calls Tryz.prog 138 #[.agg #[.int .i64 args, .int .i64 regs, .int .i64 data, .int .i64 slots, .slice bo bn bc], .agg #[.int .i64 4, .int .i64 a, .int .i64 b, .int .i64 c]] w fun e w' => e = .returned (.bool (opGood regs slots ⟨4, a, b, c⟩)) ∧ Below w.heap.size w w' := by
  cases h1 : below a regs
  · go_enter Tryz.func138, Tryz.ntmps138
    go_wp2_with (go_at_call 103; refine (isBelow_any _ _ _).mono ?_; rintro e w' ⟨rfl, rfl⟩)
    go_ret
    exact ⟨by simp [opGood, h1], ((Below.refl _ _).alloc (Nat.le_refl _) _).alloc (by simp) _⟩
  cases h2 : below b regs
  · go_enter Tryz.func138, Tryz.ntmps138
    go_wp2_with (go_at_call 103; refine (isBelow_any _ _ _).mono ?_; rintro e w' ⟨rfl, rfl⟩)
    go_ret
    exact ⟨by simp [opGood, h1, h2, int_beq0], ((Below.refl _ _).alloc (Nat.le_refl _) _).alloc (by simp) _⟩
  · go_enter Tryz.func138, Tryz.ntmps138
    go_wp2_with (go_at_call 103; refine (isBelow_any _ _ _).mono ?_; rintro e w' ⟨rfl, rfl⟩)
    go_ret
    exact ⟨by simp [opGood, h1, h2, int_beq0], ((Below.refl _ _).alloc (Nat.le_refl _) _).alloc (by simp) _⟩

set_option maxRecDepth 100000 in
set_option maxHeartbeats 2000000 in
theorem wmOp5 (args regs data slots : Int) (bo : Option Addr) (bn bc : Nat) (a b c : Int) (w : World) :
    Calls Tryz.prog 138 #[.agg #[.int .i64 args, .int .i64 regs, .int .i64 data, .int .i64 slots, .slice bo bn bc], .agg #[.int .i64 5, .int .i64 a, .int .i64 b, .int .i64 c]] w fun e w' => e = .returned (.bool (opGood regs slots ⟨5, a, b, c⟩)) ∧ Below w.heap.size w w' := by
  cases h1 : below a regs
  · go_enter Tryz.func138, Tryz.ntmps138
    go_wp2_with (go_at_call 103; refine (isBelow_any _ _ _).mono ?_; rintro e w' ⟨rfl, rfl⟩)
    go_ret
    exact ⟨by simp [opGood, h1], ((Below.refl _ _).alloc (Nat.le_refl _) _).alloc (by simp) _⟩
  cases h2 : below b regs
  · go_enter Tryz.func138, Tryz.ntmps138
    go_wp2_with (go_at_call 103; refine (isBelow_any _ _ _).mono ?_; rintro e w' ⟨rfl, rfl⟩)
    go_ret
    exact ⟨by simp [opGood, h1, h2, int_beq0], ((Below.refl _ _).alloc (Nat.le_refl _) _).alloc (by simp) _⟩
  · go_enter Tryz.func138, Tryz.ntmps138
    go_wp2_with (go_at_call 103; refine (isBelow_any _ _ _).mono ?_; rintro e w' ⟨rfl, rfl⟩)
    go_ret
    exact ⟨by simp [opGood, h1, h2, int_beq0], ((Below.refl _ _).alloc (Nat.le_refl _) _).alloc (by simp) _⟩

set_option maxRecDepth 100000 in
set_option maxHeartbeats 2000000 in
theorem wmOp6 (args regs data slots : Int) (bo : Option Addr) (bn bc : Nat) (a b c : Int) (w : World) :
    Calls Tryz.prog 138 #[.agg #[.int .i64 args, .int .i64 regs, .int .i64 data, .int .i64 slots, .slice bo bn bc], .agg #[.int .i64 6, .int .i64 a, .int .i64 b, .int .i64 c]] w fun e w' => e = .returned (.bool (opGood regs slots ⟨6, a, b, c⟩)) ∧ Below w.heap.size w w' := by
  cases h1 : below a regs
  · go_enter Tryz.func138, Tryz.ntmps138
    go_wp2_with (go_at_call 103; refine (isBelow_any _ _ _).mono ?_; rintro e w' ⟨rfl, rfl⟩)
    go_ret
    exact ⟨by simp [opGood, h1], ((Below.refl _ _).alloc (Nat.le_refl _) _).alloc (by simp) _⟩
  cases h2 : below b regs
  · go_enter Tryz.func138, Tryz.ntmps138
    go_wp2_with (go_at_call 103; refine (isBelow_any _ _ _).mono ?_; rintro e w' ⟨rfl, rfl⟩)
    go_ret
    exact ⟨by simp [opGood, h1, h2, int_beq0], ((Below.refl _ _).alloc (Nat.le_refl _) _).alloc (by simp) _⟩
  · go_enter Tryz.func138, Tryz.ntmps138
    go_wp2_with (go_at_call 103; refine (isBelow_any _ _ _).mono ?_; rintro e w' ⟨rfl, rfl⟩)
    go_ret
    exact ⟨by simp [opGood, h1, h2, int_beq0], ((Below.refl _ _).alloc (Nat.le_refl _) _).alloc (by simp) _⟩

set_option maxRecDepth 100000 in
set_option maxHeartbeats 2000000 in
theorem wmOp7 (args regs data slots : Int) (bo : Option Addr) (bn bc : Nat) (a b c : Int) (w : World) :
    Calls Tryz.prog 138 #[.agg #[.int .i64 args, .int .i64 regs, .int .i64 data, .int .i64 slots, .slice bo bn bc], .agg #[.int .i64 7, .int .i64 a, .int .i64 b, .int .i64 c]] w fun e w' => e = .returned (.bool (opGood regs slots ⟨7, a, b, c⟩)) ∧ Below w.heap.size w w' := by
  cases h1 : below a regs
  · go_enter Tryz.func138, Tryz.ntmps138
    go_wp2_with (go_at_call 103; refine (isBelow_any _ _ _).mono ?_; rintro e w' ⟨rfl, rfl⟩)
    go_ret
    exact ⟨by simp [opGood, h1], ((Below.refl _ _).alloc (Nat.le_refl _) _).alloc (by simp) _⟩
  cases h2 : below b regs
  · go_enter Tryz.func138, Tryz.ntmps138
    go_wp2_with (go_at_call 103; refine (isBelow_any _ _ _).mono ?_; rintro e w' ⟨rfl, rfl⟩)
    go_ret
    exact ⟨by simp [opGood, h1, h2, int_beq0], ((Below.refl _ _).alloc (Nat.le_refl _) _).alloc (by simp) _⟩
  · go_enter Tryz.func138, Tryz.ntmps138
    go_wp2_with (go_at_call 103; refine (isBelow_any _ _ _).mono ?_; rintro e w' ⟨rfl, rfl⟩)
    go_ret
    exact ⟨by simp [opGood, h1, h2, int_beq0], ((Below.refl _ _).alloc (Nat.le_refl _) _).alloc (by simp) _⟩

set_option maxRecDepth 100000 in
set_option maxHeartbeats 2000000 in
theorem wmOp8 (args regs data slots : Int) (bo : Option Addr) (bn bc : Nat) (a b c : Int) (w : World) :
    Calls Tryz.prog 138 #[.agg #[.int .i64 args, .int .i64 regs, .int .i64 data, .int .i64 slots, .slice bo bn bc], .agg #[.int .i64 8, .int .i64 a, .int .i64 b, .int .i64 c]] w fun e w' => e = .returned (.bool (opGood regs slots ⟨8, a, b, c⟩)) ∧ Below w.heap.size w w' := by
  cases h1 : below a regs
  · go_enter Tryz.func138, Tryz.ntmps138
    go_wp2_with (go_at_call 103; refine (isBelow_any _ _ _).mono ?_; rintro e w' ⟨rfl, rfl⟩)
    go_ret
    exact ⟨by simp [opGood, h1], ((Below.refl _ _).alloc (Nat.le_refl _) _).alloc (by simp) _⟩
  cases h2 : below b regs
  · go_enter Tryz.func138, Tryz.ntmps138
    go_wp2_with (go_at_call 103; refine (isBelow_any _ _ _).mono ?_; rintro e w' ⟨rfl, rfl⟩)
    go_ret
    exact ⟨by simp [opGood, h1, h2, int_beq0], ((Below.refl _ _).alloc (Nat.le_refl _) _).alloc (by simp) _⟩
  · go_enter Tryz.func138, Tryz.ntmps138
    go_wp2_with (go_at_call 103; refine (isBelow_any _ _ _).mono ?_; rintro e w' ⟨rfl, rfl⟩)
    go_ret
    exact ⟨by simp [opGood, h1, h2, int_beq0], ((Below.refl _ _).alloc (Nat.le_refl _) _).alloc (by simp) _⟩

set_option maxRecDepth 100000 in
set_option maxHeartbeats 2000000 in
theorem wmOp9 (args regs data slots : Int) (bo : Option Addr) (bn bc : Nat) (a b c : Int) (w : World) :
    Calls Tryz.prog 138 #[.agg #[.int .i64 args, .int .i64 regs, .int .i64 data, .int .i64 slots, .slice bo bn bc], .agg #[.int .i64 9, .int .i64 a, .int .i64 b, .int .i64 c]] w fun e w' => e = .returned (.bool (opGood regs slots ⟨9, a, b, c⟩)) ∧ Below w.heap.size w w' := by
  cases h1 : below a regs
  · go_enter Tryz.func138, Tryz.ntmps138
    go_wp2_with (go_at_call 103; refine (isBelow_any _ _ _).mono ?_; rintro e w' ⟨rfl, rfl⟩)
    go_ret
    exact ⟨by simp [opGood, h1], ((Below.refl _ _).alloc (Nat.le_refl _) _).alloc (by simp) _⟩
  cases h2 : below b regs
  · go_enter Tryz.func138, Tryz.ntmps138
    go_wp2_with (go_at_call 103; refine (isBelow_any _ _ _).mono ?_; rintro e w' ⟨rfl, rfl⟩)
    go_ret
    exact ⟨by simp [opGood, h1, h2, int_beq0], ((Below.refl _ _).alloc (Nat.le_refl _) _).alloc (by simp) _⟩
  · go_enter Tryz.func138, Tryz.ntmps138
    go_wp2_with (go_at_call 103; refine (isBelow_any _ _ _).mono ?_; rintro e w' ⟨rfl, rfl⟩)
    go_ret
    exact ⟨by simp [opGood, h1, h2, int_beq0], ((Below.refl _ _).alloc (Nat.le_refl _) _).alloc (by simp) _⟩

set_option maxRecDepth 100000 in
set_option maxHeartbeats 2000000 in
theorem wmOp10 (args regs data slots : Int) (bo : Option Addr) (bn bc : Nat) (a b c : Int) (w : World) :
    Calls Tryz.prog 138 #[.agg #[.int .i64 args, .int .i64 regs, .int .i64 data, .int .i64 slots, .slice bo bn bc], .agg #[.int .i64 10, .int .i64 a, .int .i64 b, .int .i64 c]] w fun e w' => e = .returned (.bool (opGood regs slots ⟨10, a, b, c⟩)) ∧ Below w.heap.size w w' := by
  cases h1 : below a regs
  · go_enter Tryz.func138, Tryz.ntmps138
    go_wp2_with (go_at_call 103; refine (isBelow_any _ _ _).mono ?_; rintro e w' ⟨rfl, rfl⟩)
    go_ret
    exact ⟨by simp [opGood, h1], ((Below.refl _ _).alloc (Nat.le_refl _) _).alloc (by simp) _⟩
  cases h2 : below b regs
  · go_enter Tryz.func138, Tryz.ntmps138
    go_wp2_with (go_at_call 103; refine (isBelow_any _ _ _).mono ?_; rintro e w' ⟨rfl, rfl⟩)
    go_ret
    exact ⟨by simp [opGood, h1, h2, int_beq0], ((Below.refl _ _).alloc (Nat.le_refl _) _).alloc (by simp) _⟩
  · go_enter Tryz.func138, Tryz.ntmps138
    go_wp2_with (go_at_call 103; refine (isBelow_any _ _ _).mono ?_; rintro e w' ⟨rfl, rfl⟩)
    go_ret
    exact ⟨by simp [opGood, h1, h2, int_beq0], ((Below.refl _ _).alloc (Nat.le_refl _) _).alloc (by simp) _⟩

set_option maxRecDepth 100000 in
set_option maxHeartbeats 2000000 in
theorem wmOp11 (args regs data slots : Int) (bo : Option Addr) (bn bc : Nat) (a b c : Int) (w : World) :
    Calls Tryz.prog 138 #[.agg #[.int .i64 args, .int .i64 regs, .int .i64 data, .int .i64 slots, .slice bo bn bc], .agg #[.int .i64 11, .int .i64 a, .int .i64 b, .int .i64 c]] w fun e w' => e = .returned (.bool (opGood regs slots ⟨11, a, b, c⟩)) ∧ Below w.heap.size w w' := by
  cases h1 : below a regs
  · go_enter Tryz.func138, Tryz.ntmps138
    go_wp2_with (go_at_call 103; refine (isBelow_any _ _ _).mono ?_; rintro e w' ⟨rfl, rfl⟩)
    go_ret
    exact ⟨by simp [opGood, h1], ((Below.refl _ _).alloc (Nat.le_refl _) _).alloc (by simp) _⟩
  cases h2 : below b regs
  · go_enter Tryz.func138, Tryz.ntmps138
    go_wp2_with (go_at_call 103; refine (isBelow_any _ _ _).mono ?_; rintro e w' ⟨rfl, rfl⟩)
    go_ret
    exact ⟨by simp [opGood, h1, h2, int_beq0], ((Below.refl _ _).alloc (Nat.le_refl _) _).alloc (by simp) _⟩
  · go_enter Tryz.func138, Tryz.ntmps138
    go_wp2_with (go_at_call 103; refine (isBelow_any _ _ _).mono ?_; rintro e w' ⟨rfl, rfl⟩)
    go_ret
    exact ⟨by simp [opGood, h1, h2, int_beq0], ((Below.refl _ _).alloc (Nat.le_refl _) _).alloc (by simp) _⟩

set_option maxRecDepth 100000 in
set_option maxHeartbeats 2000000 in
theorem wmOp12 (args regs data slots : Int) (bo : Option Addr) (bn bc : Nat) (a b c : Int) (w : World) :
    Calls Tryz.prog 138 #[.agg #[.int .i64 args, .int .i64 regs, .int .i64 data, .int .i64 slots, .slice bo bn bc], .agg #[.int .i64 12, .int .i64 a, .int .i64 b, .int .i64 c]] w fun e w' => e = .returned (.bool (opGood regs slots ⟨12, a, b, c⟩)) ∧ Below w.heap.size w w' := by
  cases h1 : below a regs
  · go_enter Tryz.func138, Tryz.ntmps138
    go_wp2_with (go_at_call 103; refine (isBelow_any _ _ _).mono ?_; rintro e w' ⟨rfl, rfl⟩)
    go_ret
    exact ⟨by simp [opGood, h1], ((Below.refl _ _).alloc (Nat.le_refl _) _).alloc (by simp) _⟩
  cases h2 : below b regs
  · go_enter Tryz.func138, Tryz.ntmps138
    go_wp2_with (go_at_call 103; refine (isBelow_any _ _ _).mono ?_; rintro e w' ⟨rfl, rfl⟩)
    go_ret
    exact ⟨by simp [opGood, h1, h2, int_beq0], ((Below.refl _ _).alloc (Nat.le_refl _) _).alloc (by simp) _⟩
  · go_enter Tryz.func138, Tryz.ntmps138
    go_wp2_with (go_at_call 103; refine (isBelow_any _ _ _).mono ?_; rintro e w' ⟨rfl, rfl⟩)
    go_ret
    exact ⟨by simp [opGood, h1, h2, int_beq0], ((Below.refl _ _).alloc (Nat.le_refl _) _).alloc (by simp) _⟩

set_option maxRecDepth 100000 in
set_option maxHeartbeats 2000000 in
theorem wmOp13 (args regs data slots : Int) (bo : Option Addr) (bn bc : Nat) (a b c : Int) (w : World) :
    Calls Tryz.prog 138 #[.agg #[.int .i64 args, .int .i64 regs, .int .i64 data, .int .i64 slots, .slice bo bn bc], .agg #[.int .i64 13, .int .i64 a, .int .i64 b, .int .i64 c]] w fun e w' => e = .returned (.bool (opGood regs slots ⟨13, a, b, c⟩)) ∧ Below w.heap.size w w' := by
  cases h1 : below a regs
  · go_enter Tryz.func138, Tryz.ntmps138
    go_wp2_with (go_at_call 103; refine (isBelow_any _ _ _).mono ?_; rintro e w' ⟨rfl, rfl⟩)
    go_ret
    exact ⟨by simp [opGood, h1], ((Below.refl _ _).alloc (Nat.le_refl _) _).alloc (by simp) _⟩
  cases h2 : below b regs
  · go_enter Tryz.func138, Tryz.ntmps138
    go_wp2_with (go_at_call 103; refine (isBelow_any _ _ _).mono ?_; rintro e w' ⟨rfl, rfl⟩)
    go_ret
    exact ⟨by simp [opGood, h1, h2, int_beq0], ((Below.refl _ _).alloc (Nat.le_refl _) _).alloc (by simp) _⟩
  · go_enter Tryz.func138, Tryz.ntmps138
    go_wp2_with (go_at_call 103; refine (isBelow_any _ _ _).mono ?_; rintro e w' ⟨rfl, rfl⟩)
    go_ret
    exact ⟨by simp [opGood, h1, h2, int_beq0], ((Below.refl _ _).alloc (Nat.le_refl _) _).alloc (by simp) _⟩

set_option maxRecDepth 100000 in
set_option maxHeartbeats 2000000 in
theorem wmOp14 (args regs data slots : Int) (bo : Option Addr) (bn bc : Nat) (a b c : Int) (w : World) :
    Calls Tryz.prog 138 #[.agg #[.int .i64 args, .int .i64 regs, .int .i64 data, .int .i64 slots, .slice bo bn bc], .agg #[.int .i64 14, .int .i64 a, .int .i64 b, .int .i64 c]] w fun e w' => e = .returned (.bool (opGood regs slots ⟨14, a, b, c⟩)) ∧ Below w.heap.size w w' := by
  cases h1 : below a slots
  · go_enter Tryz.func138, Tryz.ntmps138
    go_wp2_with (go_at_call 103; refine (isBelow_any _ _ _).mono ?_; rintro e w' ⟨rfl, rfl⟩)
    go_ret
    exact ⟨by simp [opGood, h1], ((Below.refl _ _).alloc (Nat.le_refl _) _).alloc (by simp) _⟩
  cases h2 : below b regs
  · go_enter Tryz.func138, Tryz.ntmps138
    go_wp2_with (go_at_call 103; refine (isBelow_any _ _ _).mono ?_; rintro e w' ⟨rfl, rfl⟩)
    go_ret
    exact ⟨by simp [opGood, h1, h2, int_beq0], ((Below.refl _ _).alloc (Nat.le_refl _) _).alloc (by simp) _⟩
  · go_enter Tryz.func138, Tryz.ntmps138
    go_wp2_with (go_at_call 103; refine (isBelow_any _ _ _).mono ?_; rintro e w' ⟨rfl, rfl⟩)
    go_ret
    exact ⟨by simp [opGood, h1, h2, int_beq0], ((Below.refl _ _).alloc (Nat.le_refl _) _).alloc (by simp) _⟩

set_option maxRecDepth 100000 in
set_option maxHeartbeats 2000000 in
theorem wmOp15 (args regs data slots : Int) (bo : Option Addr) (bn bc : Nat) (a b c : Int) (w : World) :
    Calls Tryz.prog 138 #[.agg #[.int .i64 args, .int .i64 regs, .int .i64 data, .int .i64 slots, .slice bo bn bc], .agg #[.int .i64 15, .int .i64 a, .int .i64 b, .int .i64 c]] w fun e w' => e = .returned (.bool (opGood regs slots ⟨15, a, b, c⟩)) ∧ Below w.heap.size w w' := by
  cases h1 : below a regs
  · go_enter Tryz.func138, Tryz.ntmps138
    go_wp2_with (go_at_call 103; refine (isBelow_any _ _ _).mono ?_; rintro e w' ⟨rfl, rfl⟩)
    go_ret
    exact ⟨by simp [opGood, h1], ((Below.refl _ _).alloc (Nat.le_refl _) _).alloc (by simp) _⟩
  cases h2 : below b slots
  · go_enter Tryz.func138, Tryz.ntmps138
    go_wp2_with (go_at_call 103; refine (isBelow_any _ _ _).mono ?_; rintro e w' ⟨rfl, rfl⟩)
    go_ret
    exact ⟨by simp [opGood, h1, h2, int_beq0], ((Below.refl _ _).alloc (Nat.le_refl _) _).alloc (by simp) _⟩
  · go_enter Tryz.func138, Tryz.ntmps138
    go_wp2_with (go_at_call 103; refine (isBelow_any _ _ _).mono ?_; rintro e w' ⟨rfl, rfl⟩)
    go_ret
    exact ⟨by simp [opGood, h1, h2, int_beq0], ((Below.refl _ _).alloc (Nat.le_refl _) _).alloc (by simp) _⟩

set_option maxRecDepth 100000 in
set_option maxHeartbeats 2000000 in
theorem wmOpNo (args regs data slots : Int) (bo : Option Addr) (bn bc : Nat) (k a b c : Int) (w : World) (hk : ¬ (1 ≤ k ∧ k ≤ 15)) :
    Calls Tryz.prog 138 #[.agg #[.int .i64 args, .int .i64 regs, .int .i64 data, .int .i64 slots, .slice bo bn bc], .agg #[.int .i64 k, .int .i64 a, .int .i64 b, .int .i64 c]] w fun e w' => e = .returned (.bool (opGood regs slots ⟨k, a, b, c⟩)) ∧ Below w.heap.size w w' := by
  have hg : opGood regs slots ⟨k, a, b, c⟩ = false := by
    unfold opGood
    rw [if_neg (by simp only []; omega), if_neg (by simp only []; omega), if_neg (by simp only []; omega), if_neg (by simp only []; omega), if_neg (by simp only []; omega)]
  have n1 : (k == 1) = false := by rw [beq_eq_false_iff_ne]; omega
  have n2 : (k == 2) = false := by rw [beq_eq_false_iff_ne]; omega
  have n3 : (k == 3) = false := by rw [beq_eq_false_iff_ne]; omega
  have n4 : (k == 4) = false := by rw [beq_eq_false_iff_ne]; omega
  have n5 : (k == 5) = false := by rw [beq_eq_false_iff_ne]; omega
  have n6 : (k == 6) = false := by rw [beq_eq_false_iff_ne]; omega
  have n7 : (k == 7) = false := by rw [beq_eq_false_iff_ne]; omega
  have n8 : (k == 8) = false := by rw [beq_eq_false_iff_ne]; omega
  have n9 : (k == 9) = false := by rw [beq_eq_false_iff_ne]; omega
  have n10 : (k == 10) = false := by rw [beq_eq_false_iff_ne]; omega
  have n11 : (k == 11) = false := by rw [beq_eq_false_iff_ne]; omega
  have n12 : (k == 12) = false := by rw [beq_eq_false_iff_ne]; omega
  have n13 : (k == 13) = false := by rw [beq_eq_false_iff_ne]; omega
  have n14 : (k == 14) = false := by rw [beq_eq_false_iff_ne]; omega
  have n15 : (k == 15) = false := by rw [beq_eq_false_iff_ne]; omega
  go_enter Tryz.func138, Tryz.ntmps138
  go_wp2
  go_ret
  exact ⟨by simp [hg], ((Below.refl _ _).alloc (Nat.le_refl _) _).alloc (by simp) _⟩

theorem wmOp_any (args regs data slots : Int) (bo : Option Addr) (bn bc : Nat) (k a b c : Int) (w : World) :
    Calls Tryz.prog 138 #[.agg #[.int .i64 args, .int .i64 regs, .int .i64 data, .int .i64 slots, .slice bo bn bc], .agg #[.int .i64 k, .int .i64 a, .int .i64 b, .int .i64 c]] w fun e w' => e = .returned (.bool (opGood regs slots ⟨k, a, b, c⟩)) ∧ Below w.heap.size w w' := by
  by_cases hk : 1 ≤ k ∧ k ≤ 15
  · have : k = 1 ∨ k = 2 ∨ k = 3 ∨ k = 4 ∨ k = 5 ∨ k = 6 ∨ k = 7 ∨ k = 8 ∨ k = 9 ∨ k = 10 ∨ k = 11 ∨ k = 12 ∨ k = 13 ∨ k = 14 ∨ k = 15 := by omega
    rcases this with rfl | rfl | rfl | rfl | rfl | rfl | rfl | rfl | rfl | rfl | rfl | rfl | rfl | rfl | rfl
    · exact wmOp1 args regs data slots bo bn bc a b c w
    · exact wmOp2 args regs data slots bo bn bc a b c w
    · exact wmOp3 args regs data slots bo bn bc a b c w
    · exact wmOp4 args regs data slots bo bn bc a b c w
    · exact wmOp5 args regs data slots bo bn bc a b c w
    · exact wmOp6 args regs data slots bo bn bc a b c w
    · exact wmOp7 args regs data slots bo bn bc a b c w
    · exact wmOp8 args regs data slots bo bn bc a b c w
    · exact wmOp9 args regs data slots bo bn bc a b c w
    · exact wmOp10 args regs data slots bo bn bc a b c w
    · exact wmOp11 args regs data slots bo bn bc a b c w
    · exact wmOp12 args regs data slots bo bn bc a b c w
    · exact wmOp13 args regs data slots bo bn bc a b c w
    · exact wmOp14 args regs data slots bo bn bc a b c w
    · exact wmOp15 args regs data slots bo bn bc a b c w
  · exact wmOpNo args regs data slots bo bn bc k a b c w hk

end Go.Proofs.YtblhmeidbjigaabGreatDoor

/- Well made ends, in the codec. -/
set_option linter.unusedSimpArgs false
set_option linter.unusedVariables false
namespace Go.Proofs.YtblhmeidbjigaabGreatDoor
open Go.RowKit

theorem int_beqz (c : Int) : (c == 0) = decide (c = 0) := by by_cases h : c = 0 <;> simp [h]

set_option maxRecDepth 100000 in
set_option maxHeartbeats 2000000 in
theorem wmEnd1 (args regs data slots : Int) (bo : Option Addr) (bn bc : Nat) (r x y : Int) (w : World) :
    Calls Tryz.prog 139 #[.agg #[.int .i64 args, .int .i64 regs, .int .i64 data, .int .i64 slots, .slice bo bn bc], .agg #[.int .i64 1, .int .i64 r, .int .i64 x, .int .i64 y]] w fun e w' => e = .returned (.bool (endGood regs bn ⟨1, r, x, y⟩)) ∧ Below w.heap.size w w' := by
  by_cases h0 : r = 0
  case neg =>
    have h1 : (r == 0) = false := by simp [h0]
    go_enter Tryz.func139, Tryz.ntmps139
    go_wp2_with (go_at_call 103; refine (isBelow_any _ _ _).mono ?_; rintro e w' ⟨rfl, rfl⟩)
    go_ret
    exact ⟨by simp [endGood, int_beqz, h0, h1], ((Below.refl _ _).alloc (Nat.le_refl _) _).alloc (by simp) _⟩
  subst h0
  cases h2 : below x bn
  · go_enter Tryz.func139, Tryz.ntmps139
    go_wp2_with (go_at_call 103; refine (isBelow_any _ _ _).mono ?_; rintro e w' ⟨rfl, rfl⟩)
    go_ret
    exact ⟨by simp [endGood, int_beqz, h2], ((Below.refl _ _).alloc (Nat.le_refl _) _).alloc (by simp) _⟩
  · go_enter Tryz.func139, Tryz.ntmps139
    go_wp2_with (go_at_call 103; refine (isBelow_any _ _ _).mono ?_; rintro e w' ⟨rfl, rfl⟩)
    go_ret
    exact ⟨by simp [endGood, int_beqz, h2], ((Below.refl _ _).alloc (Nat.le_refl _) _).alloc (by simp) _⟩

set_option maxRecDepth 100000 in
set_option maxHeartbeats 2000000 in
theorem wmEnd2 (args regs data slots : Int) (bo : Option Addr) (bn bc : Nat) (r x y : Int) (w : World) :
    Calls Tryz.prog 139 #[.agg #[.int .i64 args, .int .i64 regs, .int .i64 data, .int .i64 slots, .slice bo bn bc], .agg #[.int .i64 2, .int .i64 r, .int .i64 x, .int .i64 y]] w fun e w' => e = .returned (.bool (endGood regs bn ⟨2, r, x, y⟩)) ∧ Below w.heap.size w w' := by
  cases h1 : below r regs
  · go_enter Tryz.func139, Tryz.ntmps139
    go_wp2_with (go_at_call 103; refine (isBelow_any _ _ _).mono ?_; rintro e w' ⟨rfl, rfl⟩)
    go_ret
    exact ⟨by simp [endGood, int_beqz, h1], ((Below.refl _ _).alloc (Nat.le_refl _) _).alloc (by simp) _⟩
  cases h2 : below x bn
  · go_enter Tryz.func139, Tryz.ntmps139
    go_wp2_with (go_at_call 103; refine (isBelow_any _ _ _).mono ?_; rintro e w' ⟨rfl, rfl⟩)
    go_ret
    exact ⟨by simp [endGood, int_beqz, h1, h2], ((Below.refl _ _).alloc (Nat.le_refl _) _).alloc (by simp) _⟩
  · go_enter Tryz.func139, Tryz.ntmps139
    go_wp2_with (go_at_call 103; refine (isBelow_any _ _ _).mono ?_; rintro e w' ⟨rfl, rfl⟩)
    go_ret
    exact ⟨by simp [endGood, int_beqz, h1, h2], ((Below.refl _ _).alloc (Nat.le_refl _) _).alloc (by simp) _⟩

set_option maxRecDepth 100000 in
set_option maxHeartbeats 2000000 in
theorem wmEnd3 (args regs data slots : Int) (bo : Option Addr) (bn bc : Nat) (r x y : Int) (w : World) :
    Calls Tryz.prog 139 #[.agg #[.int .i64 args, .int .i64 regs, .int .i64 data, .int .i64 slots, .slice bo bn bc], .agg #[.int .i64 3, .int .i64 r, .int .i64 x, .int .i64 y]] w fun e w' => e = .returned (.bool (endGood regs bn ⟨3, r, x, y⟩)) ∧ Below w.heap.size w w' := by
  cases h1 : below r regs
  · go_enter Tryz.func139, Tryz.ntmps139
    go_wp2_with (go_at_call 103; refine (isBelow_any _ _ _).mono ?_; rintro e w' ⟨rfl, rfl⟩)
    go_ret
    exact ⟨by simp [endGood, int_beqz, h1], ((Below.refl _ _).alloc (Nat.le_refl _) _).alloc (by simp) _⟩
  by_cases h0 : x = 0
  case neg =>
    have h2 : (x == 0) = false := by simp [h0]
    go_enter Tryz.func139, Tryz.ntmps139
    go_wp2_with (go_at_call 103; refine (isBelow_any _ _ _).mono ?_; rintro e w' ⟨rfl, rfl⟩)
    go_ret
    exact ⟨by simp [endGood, int_beqz, h1, h0, h2], ((Below.refl _ _).alloc (Nat.le_refl _) _).alloc (by simp) _⟩
  subst h0
  · go_enter Tryz.func139, Tryz.ntmps139
    go_wp2_with (go_at_call 103; refine (isBelow_any _ _ _).mono ?_; rintro e w' ⟨rfl, rfl⟩)
    go_ret
    exact ⟨by simp [endGood, int_beqz, h1], ((Below.refl _ _).alloc (Nat.le_refl _) _).alloc (by simp) _⟩

set_option maxRecDepth 100000 in
set_option maxHeartbeats 2000000 in
theorem wmEndNo (args regs data slots : Int) (bo : Option Addr) (bn bc : Nat) (k r x y : Int) (w : World) (hk : ¬ (1 ≤ k ∧ k ≤ 3)) :
    Calls Tryz.prog 139 #[.agg #[.int .i64 args, .int .i64 regs, .int .i64 data, .int .i64 slots, .slice bo bn bc], .agg #[.int .i64 k, .int .i64 r, .int .i64 x, .int .i64 y]] w fun e w' => e = .returned (.bool (endGood regs bn ⟨k, r, x, y⟩)) ∧ Below w.heap.size w w' := by
  have hg : endGood regs bn ⟨k, r, x, y⟩ = false := by
    unfold endGood
    rw [if_neg (by simp only []; omega), if_neg (by simp only []; omega), if_neg (by simp only []; omega)]
  have n1 : (k == 1) = false := by rw [beq_eq_false_iff_ne]; omega
  have n2 : (k == 2) = false := by rw [beq_eq_false_iff_ne]; omega
  have n3 : (k == 3) = false := by rw [beq_eq_false_iff_ne]; omega
  go_enter Tryz.func139, Tryz.ntmps139
  go_wp2
  go_ret
  exact ⟨by simp [hg], ((Below.refl _ _).alloc (Nat.le_refl _) _).alloc (by simp) _⟩

theorem wmEnd_any (args regs data slots : Int) (bo : Option Addr) (bn bc : Nat) (k r x y : Int) (w : World) :
    Calls Tryz.prog 139 #[.agg #[.int .i64 args, .int .i64 regs, .int .i64 data, .int .i64 slots, .slice bo bn bc], .agg #[.int .i64 k, .int .i64 r, .int .i64 x, .int .i64 y]] w fun e w' => e = .returned (.bool (endGood regs bn ⟨k, r, x, y⟩)) ∧ Below w.heap.size w w' := by
  by_cases hk : 1 ≤ k ∧ k ≤ 3
  · have : k = 1 ∨ k = 2 ∨ k = 3 := by omega
    rcases this with rfl | rfl | rfl
    · exact wmEnd1 args regs data slots bo bn bc r x y w
    · exact wmEnd2 args regs data slots bo bn bc r x y w
    · exact wmEnd3 args regs data slots bo bn bc r x y w
  · exact wmEndNo args regs data slots bo bn bc k r x y w hk

end Go.Proofs.YtblhmeidbjigaabGreatDoor
