/- Two blocks that start alike and whose terms are the same end alike: pure. -/
import Derived.Test.YtblhmeidbjigaabGreatDoorRows
import Derived.WalkKit
import Derived.WalkSpells
import Derived.WalkLawsBesides
import Derived.Laws.BytesArg
import Derived.Deep.QuietTactic
import Derived.BigQuiet
import Derived.Deep.RegionHeld3
import Derived.Lib.ItoaNum
import Derived.Lib.ItoaLen
import Derived.OpenShut
import Derived.Maps.AppendAt
import Derived.StillTailTactics
import Derived.Test.YtblhmeidbjigaabGreatDoorKOpToTMarkSound

set_option linter.unusedSimpArgs false
set_option linter.unusedVariables false
noncomputable section
namespace Go.Proofs.YtblhmeidbjigaabGreatDoor
open Go.RowKit Classical

/-- What a place of a program with so many registers holds. -/
def placeV (regs : Int) (s : RunD) (p : Int) : Int := if p < regs then rg s.regs p else rg s.slots (p - regs)

/-- By place the register of the source that a pair names; -1: none does. -/
def namesOf (ps : List PairD) (n : Nat) : List Int := (List.range n).map fun (p : Nat) => match ps.find? (fun x => decide (x.place = (p : Int))) with | some x => x.reg | none => -1

/-- Source and target at a block's begin: the pairs hold, the cells are the same. -/
structure Alike (ps : List PairD) (regsT : Int) (s t : RunD) : Prop where
  pair : ∀ x ∈ ps, rg s.regs x.reg = placeV regsT t x.place
  cells : s.cells = t.cells

/-- Words. -/
structure WideR (s : RunD) : Prop where
  regs : ∀ x ∈ s.regs, W64 x
  cells : ∀ x ∈ s.cells, W64 x
  slots : ∀ x ∈ s.slots, W64 x

theorem rg_wide {l : List Int} (h : ∀ x ∈ l, W64 x) (i : Int) : W64 (rg l i) := by
  unfold rg
  by_cases hi : i.toNat < l.length
  · exact h _ (getD_mem' hi)
  · simp [List.getD, hi]; exact w64_small (by omega)

/-- What stood there: the source's registers, the target's places, the cells. -/
def envOf (regsT : Int) (s t : RunD) : EnvD := ⟨fun i => rg s.regs i, fun p => placeV regsT t p, fun n => if 0 ≤ n then rg s.cells n else 0⟩

theorem envOf_wide {regsT : Int} {s t : RunD} (hs : WideR s) (ht : WideR t) : (envOf regsT s t).wide := by
  refine ⟨fun n => rg_wide hs.regs n, fun p => ?_, fun n => ?_⟩
  · show W64 (placeV regsT t p)
    unfold placeV
    split
    · exact rg_wide ht.regs _
    · exact rg_wide ht.slots _
  · show W64 (if 0 ≤ n then rg s.cells n else 0)
    split
    · exact rg_wide hs.cells n
    · exact w64_small (by omega)

/-- The source begins with its own registers. -/
theorem holds_source (regsT : Int) {s t : RunD} {regs data : Int} (hz : Sized s regs data 0) (ops : List OpD) : Holds (envOf regsT s t) regs 0 data (plainNames regs 0) ops 0 s := by
  have hl : (plainNames regs 0).length = regs.toNat := by simp [plainNames]
  have hr : 0 ≤ regs := by have := hz.regs; omega
  refine ⟨fun i h0 h1 => ?_, fun j h0 h1 => by omega, fun n h0 h1 => ?_⟩
  · have hg : (plainNames regs 0).getD i.toNat 0 = i := by
      simp [plainNames, List.getD, show i.toNat < regs.toNat by omega]
      omega
    simp only [behindT, firstT]
    rw [if_neg (by rw [hl]; omega), hg, if_neg (by omega)]
    simp [evW, evT, envOf]
  · simp only [behindT, firstT]
    rw [if_pos (by rw [hl]; omega)]
    simp [evM, evT, envOf, h0]

theorem namesOf_get (ps : List PairD) {n : Nat} {p : Int} (h0 : 0 ≤ p) (h1 : p < n) : (namesOf ps n).getD p.toNat 0 = match ps.find? (fun x => decide (x.place = p)) with | some x => x.reg | none => -1 := by
  have e : ((p.toNat : Nat) : Int) = p := by omega
  simp only [namesOf, List.getD]
  rw [List.getElem?_map, List.getElem?_range (by omega)]
  simp only [Option.map_some, Option.getD_some]
  rw [e]

/-- The target begins with what its pairs name, and with the unknown. -/
theorem holds_target {ps : List PairD} (hps : ∀ x ∈ ps, 0 ≤ x.reg) {s t : RunD} {regs slots data : Int} (hz : Sized t regs data slots) (ha : Alike ps regs s t) (ops : List OpD) : Holds (envOf regs s t) regs slots data (namesOf ps (regs + slots).toNat) ops 0 t := by
  have hl : (namesOf ps (regs + slots).toNat).length = (regs + slots).toNat := by simp [namesOf]
  have hr : 0 ≤ regs := by have := hz.regs; omega
  have hsl : 0 ≤ slots := by have := hz.slots; omega
  have key : ∀ p : Int, 0 ≤ p → p < regs + slots → evW (envOf regs s t) (firstT (namesOf ps (regs + slots).toNat) p) = placeV regs t p := by
    intro p h0 h1
    unfold firstT
    rw [if_neg (by rw [hl]; omega), namesOf_get ps h0 (by omega)]
    cases hf : ps.find? (fun x => decide (x.place = p)) with
    | none => simp [evW, evT, envOf]
    | some x =>
      have hm := List.mem_of_find?_eq_some hf
      have hpl := List.find?_some hf
      simp only [decide_eq_true_eq] at hpl
      have h1 := hps x hm
      simp only
      rw [if_neg (by omega)]
      have := ha.pair x hm
      rw [hpl] at this
      simp [evW, evT, envOf, this]
  refine ⟨fun i h0 h1 => ?_, fun j h0 h1 => ?_, fun n h0 h1 => ?_⟩
  · have := key i h0 (by omega)
    simp only [behindT]
    rw [this]
    simp [placeV, h1]
  · have := key (regs + j) (by omega) (by omega)
    simp only [behindT]
    rw [this]
    unfold placeV
    rw [if_neg (by omega), show regs + j - regs = j by omega]
  · simp only [behindT, firstT]
    rw [if_pos (by rw [hl]; omega)]
    simp [evM, evT, envOf, h0, ha.cells]

theorem list_ext_rg {l m : List Int} (h : l.length = m.length) (hh : ∀ n : Int, 0 ≤ n → n < l.length → rg l n = rg m n) : l = m := by
  apply List.ext_getElem h
  intro i h1 h2
  have := hh i (by omega) (by omega)
  simpa [rg, List.getD, h1, h2] using this

/-- Two blocks that start alike, with one list of marks: they trap alike or not at all; where the terms of a register of the source and of a place of the target are the same, so are the words; where the cells' terms are, so are the cells. -/
theorem alike_block {ps : List PairD} (hps : ∀ x ∈ ps, 0 ≤ x.reg ∧ x.reg ≤ 1000) {s t : RunD} {rs rt slots data : Int} (hrs : 0 ≤ rs ∧ rs ≤ 50) (hrt : 0 ≤ rt ∧ rt ≤ 50) (hsl : 0 ≤ slots ∧ slots ≤ 50) (hzs : Sized s rs data 0) (hzt : Sized t rt data slots) (hws : WideR s) (hwt : WideR t) (ts : s.trap = 0) (tt : t.trap = 0)
    (ha : Alike ps rt s t) {os ot : List OpD} (gs : opsGood rs 0 os = true) (gt : opsGood rt slots ot = true)
    (hm : marksD rs 0 data (plainNames rs 0) os os.length = marksD rt slots data (namesOf ps (rt + slots).toNat) ot ot.length) :
    (doOps os s).trap = (doOps ot t).trap ∧ ((doOps os s).trap = 0 →
      (∀ i p : Int, 0 ≤ i → i < rs → 0 ≤ p → p < rt + slots → behindT rs 0 (plainNames rs 0) os os.length i = behindT rt slots (namesOf ps (rt + slots).toNat) ot ot.length p → rg (doOps os s).regs i = placeV rt (doOps ot t) p) ∧
      (behindT rs 0 (plainNames rs 0) os os.length rs = behindT rt slots (namesOf ps (rt + slots).toNat) ot ot.length (rt + slots) → (doOps os s).cells = (doOps ot t).cells) ∧
      (∀ i n : Int, 0 ≤ i → i < rs → behindT rs 0 (plainNames rs 0) os os.length i = tnum n → rg (doOps os s).regs i = n) ∧
      (∀ i n : Int, 0 ≤ i → i < rt → behindT rt slots (namesOf ps (rt + slots).toNat) ot ot.length i = tnum n → rg (doOps ot t).regs i = n)) := by
  have hw := envOf_wide (regsT := rt) hws hwt
  have hS := holds_source rt (t := t) hzs os
  have hT := holds_target (fun x hx => (hps x hx).1) hzt ha ot
  have nS : ∀ x ∈ plainNames rs 0, x ≤ 1000 := by
    intro x hx
    simp only [plainNames, List.mem_map, List.mem_range] at hx
    obtain ⟨i, hi, rfl⟩ := hx
    split <;> omega
  have nT : ∀ x ∈ namesOf ps (rt + slots).toNat, x ≤ 1000 := by
    intro x hx
    simp only [namesOf, List.mem_map, List.mem_range] at hx
    obtain ⟨p, hp, rfl⟩ := hx
    split
    · rename_i y hy; exact (hps y (List.mem_of_find?_eq_some hy)).2
    · omega
  have fS := block_marks hw hS (by omega) (by omega) nS gs hzs ts
  have fT := block_marks hw hT (by omega) (by omega) nT gt hzt tt
  have htr : (doOps os s).trap = (doOps ot t).trap := by rw [fS, fT, hm]
  refine ⟨htr, fun h0 => ?_⟩
  have aS := hS.all hw (by omega) (by omega) nS gs hzs os.length (Nat.le_refl _) (by rw [List.take_length]; exact h0)
  have aT := hT.all hw (by omega) (by omega) nT gt hzt ot.length (Nat.le_refl _) (by rw [List.take_length, ← htr]; exact h0)
  rw [List.take_length] at aS aT
  have zS := hzs.doOps os
  have zT := hzt.doOps ot
  refine ⟨fun i p i0 i1 p0 p1 e => ?_, fun e => ?_, fun i n i0 i1 e => by rw [← aS.reg i i0 i1, e, ev_num], fun i n i0 i1 e => by rw [← aT.reg i i0 i1, e, ev_num]⟩
  · rw [← aS.reg i i0 i1, e]
    unfold placeV
    split
    · rename_i h; exact aT.reg p p0 h
    · rename_i h
      have := aT.slot (p - rt) (by omega) (by omega)
      rw [show rt + (p - rt) = p by omega] at this
      exact this
  · have l1 := zS.cells
    have l2 := zT.cells
    refine list_ext_rg (by omega) (fun n n0 n1 => ?_)
    have c1 := aS.cell n n0 (by omega)
    have c2 := aT.cell n n0 (by omega)
    rw [Int.add_zero, e] at c1
    rw [← c1, c2]

end Go.Proofs.YtblhmeidbjigaabGreatDoor

/- The machine lets words out. -/
set_option linter.unusedSimpArgs false
set_option linter.unusedVariables false
namespace Go.Proofs.YtblhmeidbjigaabGreatDoor
open Go.RowKit

theorem Row.grown {w w' : World} {M : Nat} {t : TypeId} {xs : List Value} {row : Option Nat} (h : Row w M t xs) (hg : w.grownBy w' row) (hne : row ≠ some M) : Row w' M t xs := h.same (hg.block M h.lt (fun e => hne e.symm))

theorem Keep.mono {S S' : Nat → Prop} {w w' : World} (h : Keep S w w') (hs : ∀ g, S g → S' g) : Keep S' w w' := ⟨h.os, h.tape, h.output, h.size, fun k hk hn => h.block k hk (fun e => hn (hs k e))⟩

/-- The machine at block M. -/
def Mach (K : Nat → Prop) (w : World) (M : Nat) (s : RunD) : Prop :=
  ∃ rv cv sv lv, Row w M 126 [rv, cv, sv, lv, .int .i64 s.trap] ∧ Bunch K w rv cv sv lv s ∧ ¬ K M

theorem Mach.keep {K : Nat → Prop} {w w' : World} {M : Nat} {s : RunD} (h : Mach K w M s) (hb : Below w.heap.size w w') : Mach K w' M s := by
  obtain ⟨rv, cv, sv, lv, h1, h2, h3⟩ := h
  exact ⟨rv, cv, sv, lv, h1.keep hb, h2.keep hb, h3⟩

/-- Other blocks are kept: some of those, and new ones. -/
theorem Mach.kept {K K' : Nat → Prop} {w w' : World} {M : Nat} {s : RunD} (h : Mach K w M s) (hk : ∀ g, K' g → K g ∨ w.heap.size ≤ g) (hl : ∀ g, K' g → g < w'.heap.size) (hb : Below w.heap.size w w') : Mach K' w' M s := by
  obtain ⟨rv, cv, sv, lv, h1, h2, h3⟩ := h
  refine ⟨rv, cv, sv, lv, h1.keep hb, h2.kept hk hl hb, fun e => ?_⟩
  rcases hk M e with q | q
  · exact h3 q
  · have := h1.lt; omega

theorem Mach.lt {K : Nat → Prop} {w : World} {M : Nat} {s : RunD} (h : Mach K w M s) : ∀ g, K g → g < w.heap.size := by
  obtain ⟨rv, cv, sv, lv, h1, h2, h3⟩ := h
  exact h2.lt

theorem one_new (w : World) (x : Value) (t : TypeId) : ∀ j u, [x][j]? = some u → (w.alloc (.cells #[x] t)).cell? ((⟨w.heap.size, 0, none⟩ : Addr).add j) = some u := by
  intro j u hj
  match j, hj with
  | 0, hj => simp at hj; subst hj; simp [Addr.add]

set_option maxRecDepth 100000 in
set_option maxHeartbeats 2000000 in
theorem letOut_cps (K : Nat → Prop) (M : Nat) (s : RunD) (x : Int) (w : World) (h : Mach K w M s) (hl : s.leak.length ≤ 100000) (Post : Ending → World → Prop)
    (hp : ∀ w', Mach K w' M (s.out x) → Keep (fun g => ¬ K g) w w' → Post (.returned (.tuple #[])) w') :
    Calls Tryz.prog 141 #[.pointer (some ⟨M, 0, none⟩), .int .i64 x] w Post := by
  obtain ⟨rv, cv, sv, lv, hrow, hb, hK⟩ := h
  obtain ⟨i0, ii, iz0, iz1, iz2⟩ := info_parts Tryz.infoInt
  obtain ⟨lo, lc, rfl⟩ := owns_slice hb.leak
  have x3 := hrow.cell (i := 3) rfl
  have hne := row_owns_apart hrow hb.leak (by decide)
  have hal := (Below.refl w.heap.size w).alloc (Nat.le_refl _) (.cells #[.int .i64 x] 3)
  have hb0 := hb.keep hal
  have hr0 := hrow.keep hal
  have hk0 : Keep (fun g => ¬ K g) w (w.alloc (.cells #[.int .i64 x] 3)) := (Keep.refl _ _).alloc _
  go_enter Tryz.func141, Tryz.ntmps141
  go_wp2_with (at_builtin; refine wpList_append_own_at _ rfl _ _ 22 rfl 0 3 i0 (.int .i64 0) 1 8 Tryz.underlying22 ii iz0 iz1 iz2 rfl (by decide) _ _ _ rfl hb0.leak ⟨w.heap.size, 0, none⟩ 1 1 [.int .i64 x] rfl rfl ?c1 ?c2 ?c3 ?c4 (by omega) ?_)
  case c1 => exact one_new w _ _
  case c2 => intro u hu; simp at hu; subst hu; rfl
  case c3 => unfold maxLen; omega
  case c4 => omega
  intro v' w1 hown hgrow _ hat
  have hb1 := hb0.app hown hgrow (by simpa using hat)
  have hr1 := hr0.grown hgrow hne
  have hk1 := hk0.grown hgrow (fun g e => .inl (hb.kl g e))
  have y3 := hr1.cell (i := 3) rfl
  have yf := hr1.frozen 3
  have hb2 := hb1.far hr1 (by decide) 3 v'
  have hr2 := hr1.set 3 v'
  have hk2 := hk1.setCell (p := ⟨M, 3, none⟩) (.inl hK) v'
  have HF : Hid (Post (.returned (.tuple #[])) (w1.setCell ⟨M, 3, none⟩ v')) := hp _ ⟨rv, cv, sv, v', hr2, hb2, hK⟩ hk2
  obtain ⟨lo', lc', rfl⟩ := owns_slice hown
  clear hp hb hb0 hr0 hb1 hr1 hk1 hb2 hr2 hk2 hgrow hown hat hal hk0 hrow
  go_wp2
  go_end0
  exact HF.out

set_option maxRecDepth 100000 in
set_option maxHeartbeats 2000000 in
theorem reaches_cps (K : Nat → Prop) (M : Nat) (s : RunD) (n : Int) (w : World) (h : Mach K w M s) (hl : s.leak.length ≤ 100000) (Post : Ending → World → Prop)
    (hyes : 0 ≤ n ∧ n < s.cells.length → ∀ w', Mach K w' M (s.out n) → Keep (fun g => ¬ K g) w w' → Post (.returned (.bool true)) w')
    (hno : ¬ (0 ≤ n ∧ n < s.cells.length) → ∀ w', Mach K w' M ((s.out n).die 2) → Keep (fun g => ¬ K g) w w' → Post (.returned (.bool false)) w') :
    Calls Tryz.prog 186 #[.pointer (some ⟨M, 0, none⟩), .int .i64 n] w Post := by
  go_enter Tryz.func186, Tryz.ntmps186
  go_wp2_with fail
  refine letOut_cps K M s n w h hl _ ?_
  intro w1 hm hk
  clear h hl
  obtain ⟨rv, cv, sv, lv, hrow, hb, hK⟩ := id hm
  obtain ⟨co, cc, rfl⟩ := owns_slice hb.cells
  have x1 := hrow.cell (i := 1) rfl
  have hlc : (s.out n).cells.length = s.cells.length := rfl
  rw [hlc] at x1 hrow hb
  by_cases h0 : n < 0
  · have x4 := hrow.cell (i := 4) rfl
    have xf := hrow.frozen 4
    have hk2 := hk.setCell (p := ⟨M, 4, none⟩) (.inl hK) (.int .i64 2)
    have HF : Hid (Post (.returned (.bool false)) (w1.setCell ⟨M, 4, none⟩ (.int .i64 2))) := hno (by omega) _ ⟨rv, _, sv, lv, hrow.set 4 (.int .i64 2), (hb.far hrow (by decide) 4 _).trapped 2, hK⟩ hk2
    clear hyes hno hk hk2 hb hrow hm
    go_wp2
    exact HF.out
  by_cases h1 : n < s.cells.length
  · have HF : Hid (Post (.returned (.bool true)) w1) := hyes ⟨by omega, h1⟩ _ hm hk
    clear hyes hno hk hb hrow hm
    go_wp2
    exact HF.out
  · have x4 := hrow.cell (i := 4) rfl
    have xf := hrow.frozen 4
    have hk2 := hk.setCell (p := ⟨M, 4, none⟩) (.inl hK) (.int .i64 2)
    have HF : Hid (Post (.returned (.bool false)) (w1.setCell ⟨M, 4, none⟩ (.int .i64 2))) := hno (by omega) _ ⟨rv, _, sv, lv, hrow.set 4 (.int .i64 2), (hb.far hrow (by decide) 4 _).trapped 2, hK⟩ hk2
    clear hyes hno hk hk2 hb hrow hm
    go_wp2
    exact HF.out

end Go.Proofs.YtblhmeidbjigaabGreatDoor

/- The machine's Load. -/
set_option linter.unusedSimpArgs false
set_option linter.unusedVariables false
namespace Go.Proofs.YtblhmeidbjigaabGreatDoor
open Go.RowKit

/-- A region that reads, then one store (or what follows of itself). -/
theorem wp_tail {P : Program} {id : Nat} {Q : Exit → Act → World → Prop} {a : Act} {w : World} {l : List Oper} (n : Nat) (hm : P.follows .mixedOrders = true) (hB : Region.lexTailB .any l.toArray n = true)
    (h : wpStill P l.toArray w.drew (fun a' => wpList P l.toArray Q (l.drop n) a' w.drew) (l.take n) a) : (Code.region id l.toArray true).wp P Q a w :=
  wp_region_still_tail n hm hB h

/-- The machine beside a boxed operation (or end) at block O. -/
structure With (K : Nat → Prop) (w0 w : World) (M O : Nat) (t : TypeId) (xs : List Value) (s : RunD) : Prop where
  mach : Mach (fun g => K g ∨ g = O) w M s
  row : Row w O t xs
  keep : Keep (fun g => ¬ K g) w0 w
  lt : ∀ g, K g → g < w0.heap.size
  ge : w0.heap.size ≤ O

theorem With.start {K : Nat → Prop} {w : World} {M : Nat} {s : RunD} (h : Mach K w M s) (t : TypeId) (xs : List Value) : With K w (w.alloc (.cells xs.toArray t)) M w.heap.size t xs s :=
  ⟨h.kept (fun g hg => by rcases hg with hg | hg; exact .inl hg; exact .inr (by omega)) (fun g hg => by rcases hg with hg | hg; have := h.lt g hg; simp; omega; simp; omega) ((Below.refl _ _).alloc (Nat.le_refl _) _),
    heap_alloc_new w _, (Keep.refl _ _).alloc _, h.lt, Nat.le_refl _⟩

theorem With.below {K : Nat → Prop} {w0 w w' : World} {M O : Nat} {t : TypeId} {xs : List Value} {s : RunD} (h : With K w0 w M O t xs s) (hb : Below w.heap.size w w') : With K w0 w' M O t xs s :=
  ⟨h.mach.keep hb, h.row.keep hb, h.keep.below hb h.keep.size, h.lt, h.ge⟩

theorem With.next {K : Nat → Prop} {w0 w w' : World} {M O : Nat} {t : TypeId} {xs : List Value} {s s' : RunD} (h : With K w0 w M O t xs s) (hm : Mach (fun g => K g ∨ g = O) w' M s') (hk : Keep (fun g => ¬ (K g ∨ g = O)) w w') : With K w0 w' M O t xs s' :=
  ⟨hm, h.row.same (hk.block O h.row.lt (fun hn => hn (.inr rfl))), h.keep.trans (hk.mono (fun g hn e => hn (.inl e))), h.lt, h.ge⟩

theorem With.done {K : Nat → Prop} {w0 w : World} {M O : Nat} {t : TypeId} {xs : List Value} {s : RunD} (h : With K w0 w M O t xs s) : Mach K w M s :=
  h.mach.kept (fun g hg => .inl (.inl hg)) (fun g hg => Nat.lt_of_lt_of_le (h.lt g hg) h.keep.size) (Below.refl _ _)

/-- A word becomes another: a register. -/
theorem With.setReg {K : Nat → Prop} {w0 w : World} {M O : Nat} {t : TypeId} {xs : List Value} {s : RunD} (h : With K w0 w M O t xs s) {rv cv sv lv : Value} (hrow : Row w M 126 [rv, cv, sv, lv, .int .i64 s.trap]) (hb : Bunch (fun g => K g ∨ g = O) w rv cv sv lv s)
    {g i : Nat} (hg : rv.ownBlock = some g) (hi : i < s.regs.length) (u : Int) : Mach K (w.setCell ⟨g, i, none⟩ (.int .i64 u)) M (s.reg i u) ∧ Keep (fun g => ¬ K g) w0 (w.setCell ⟨g, i, none⟩ (.int .i64 u)) := by
  have hne : ¬ (rv.ownBlock = some M) := row_owns_apart hrow hb.regs (by decide)
  have hK : ¬ (K g ∨ g = O) := hb.kr g hg
  have hM : ¬ K M := by obtain ⟨_, _, _, _, _, _, h3⟩ := h.mach; exact fun e => h3 (.inl e)
  have b2 := hb.setReg hg hi u
  have r2 := hrow.unset (a := ⟨g, i, none⟩) (fun e => hne (by rw [hg]; exact congrArg some e.symm)) (.int .i64 u)
  have b3 := b2.kept (K' := K) (fun g hg => .inl (.inl hg)) (fun g hg => by have := h.lt g hg; have := h.keep.size; simp; omega) (Below.refl _ _)
  exact ⟨⟨rv, cv, sv, lv, r2, b3, hM⟩, h.keep.setCell (.inl (fun e => hK (.inl e))) _⟩

theorem With.setMem {K : Nat → Prop} {w0 w : World} {M O : Nat} {t : TypeId} {xs : List Value} {s : RunD} (h : With K w0 w M O t xs s) {rv cv sv lv : Value} (hrow : Row w M 126 [rv, cv, sv, lv, .int .i64 s.trap]) (hb : Bunch (fun g => K g ∨ g = O) w rv cv sv lv s)
    {g i : Nat} (hg : cv.ownBlock = some g) (hi : i < s.cells.length) (u : Int) : Mach K (w.setCell ⟨g, i, none⟩ (.int .i64 u)) M (s.cell i u) ∧ Keep (fun g => ¬ K g) w0 (w.setCell ⟨g, i, none⟩ (.int .i64 u)) := by
  have hne : ¬ (cv.ownBlock = some M) := row_owns_apart hrow hb.cells (by decide)
  have hK : ¬ (K g ∨ g = O) := hb.kc g hg
  have hM : ¬ K M := by obtain ⟨_, _, _, _, _, _, h3⟩ := h.mach; exact fun e => h3 (.inl e)
  have b2 := hb.setMem hg hi u
  have r2 := hrow.unset (a := ⟨g, i, none⟩) (fun e => hne (by rw [hg]; exact congrArg some e.symm)) (.int .i64 u)
  have b3 := b2.kept (K' := K) (fun g hg => .inl (.inl hg)) (fun g hg => by have := h.lt g hg; have := h.keep.size; simp; omega) (Below.refl _ _)
  exact ⟨⟨rv, cv, sv, lv, r2, b3, hM⟩, h.keep.setCell (.inl (fun e => hK (.inl e))) _⟩

theorem With.setSlot {K : Nat → Prop} {w0 w : World} {M O : Nat} {t : TypeId} {xs : List Value} {s : RunD} (h : With K w0 w M O t xs s) {rv cv sv lv : Value} (hrow : Row w M 126 [rv, cv, sv, lv, .int .i64 s.trap]) (hb : Bunch (fun g => K g ∨ g = O) w rv cv sv lv s)
    {g i : Nat} (hg : sv.ownBlock = some g) (hi : i < s.slots.length) (u : Int) : Mach K (w.setCell ⟨g, i, none⟩ (.int .i64 u)) M (s.slot i u) ∧ Keep (fun g => ¬ K g) w0 (w.setCell ⟨g, i, none⟩ (.int .i64 u)) := by
  have hne : ¬ (sv.ownBlock = some M) := row_owns_apart hrow hb.slots (by decide)
  have hK : ¬ (K g ∨ g = O) := hb.ks g hg
  have hM : ¬ K M := by obtain ⟨_, _, _, _, _, _, h3⟩ := h.mach; exact fun e => h3 (.inl e)
  have b2 := hb.setSlot hg hi u
  have r2 := hrow.unset (a := ⟨g, i, none⟩) (fun e => hne (by rw [hg]; exact congrArg some e.symm)) (.int .i64 u)
  have b3 := b2.kept (K' := K) (fun g hg => .inl (.inl hg)) (fun g hg => by have := h.lt g hg; have := h.keep.size; simp; omega) (Below.refl _ _)
  exact ⟨⟨rv, cv, sv, lv, r2, b3, hM⟩, h.keep.setCell (.inl (fun e => hK (.inl e))) _⟩

set_option maxRecDepth 100000 in
set_option maxHeartbeats 4000000 in
theorem load_cps (K : Nat → Prop) (M : Nat) (s : RunD) (k c : Int) (a b : Nat) (w : World) (h : Mach K w M s) (hl : s.leak.length ≤ 100000) (ha : a < s.regs.length) (hb : b < s.regs.length) (Post : Ending → World → Prop)
    (hp : ∀ w', Mach K w' M (if 0 ≤ rg s.regs b ∧ rg s.regs b < s.cells.length then (s.out (rg s.regs b)).reg a (rg s.cells (rg s.regs b)) else (s.out (rg s.regs b)).die 2) → Keep (fun g => ¬ K g) w w' → Post (.returned (.tuple #[])) w') :
    Calls Tryz.prog 168 #[.pointer (some ⟨M, 0, none⟩), .agg #[.int .i64 k, .int .i64 a, .int .i64 b, .int .i64 c]] w Post := by
  have W0 := With.start h 36 [.int .i64 k, .int .i64 a, .int .i64 b, .int .i64 c]
  clear h
  obtain ⟨rv, cv, sv, lv, hrow, hbu, hK⟩ := id W0.mach
  obtain ⟨rb, rc, hrv, hrb, hrc, hrf⟩ := hbu.regs.at hb
  subst hrv
  have m0 := hrow.cell (i := 0) rfl
  have o2 := W0.row.cell (i := 2) rfl
  have hbi : (0 : Int) ≤ (b : Int) := by omega
  have hbj : (b : Int) < (s.regs.length : Int) := by omega
  have hn : s.regs.getD b 0 = rg s.regs b := by simp [rg]
  rw [hn] at hrc
  generalize rg s.regs b = n at *
  have Wd : ∀ d, With K w ((w.alloc (.cells #[.int .i64 k, .int .i64 a, .int .i64 b, .int .i64 c] 36)).drewN d) M w.heap.size 36 [.int .i64 k, .int .i64 a, .int .i64 b, .int .i64 c] s := fun d => W0.below (below_drewN (Below.refl _ _) d)
  clear W0 hrow hbu
  go_enter Tryz.func168, Tryz.ntmps168
  go_wp2
  go_quiet (fail)
  go_wp2_with fail
  generalize hwq : (w.alloc (.cells #[.int .i64 k, .int .i64 a, .int .i64 b, .int .i64 c] 36)).drewN _ = wq
  have Wq : With K w wq M w.heap.size 36 [.int .i64 k, .int .i64 a, .int .i64 b, .int .i64 c] s := by rw [← hwq]; exact Wd _
  clear Wd hwq m0 o2 hrc hrf
  refine reaches_cps _ M s n wq Wq.mach hl _ ?_ ?_
  · intro hin w2 hm2 hk2
    rw [if_pos hin] at hp
    obtain ⟨hn0, hn1⟩ := hin
    obtain ⟨j, rfl⟩ := Int.eq_ofNat_of_zero_le hn0
    have W2 := Wq.next hm2 hk2
    clear Wq hm2 hk2
    have Wd := W2.below ((Below.refl w2.heap.size w2).drew)
    obtain ⟨rv, cv, sv, lv, hrow, hbu, hK⟩ := id Wd.mach
    obtain ⟨g1, cc, hcv, hgc, hcc, hcf⟩ := hbu.cells.at (i := j) (by show j < s.cells.length; omega)
    obtain ⟨g2, rc, hrv, hgr, hrc, hrf⟩ := hbu.regs.at (i := a) ha
    subst hcv hrv
    have e1 : (s.out j).cells.getD j 0 = rg s.cells j := by simp [rg, RunD.out]
    rw [e1] at hcc
    have m0 := hrow.cell (i := 0) rfl
    have m1 := hrow.cell (i := 1) rfl
    have o1 := Wd.row.cell (i := 1) rfl
    have f2 := hrf a
    have hai : (0 : Int) ≤ (a : Int) := by omega
    have haj : (a : Int) < ((s.out j).regs.length : Int) := by show (a : Int) < (s.regs.length : Int); omega
    have hji : (0 : Int) ≤ (j : Int) := by omega
    have hjj : (j : Int) < ((s.out j).cells.length : Int) := hn1
    obtain ⟨q1, q2⟩ := Wd.setReg hrow hbu hgr (i := a) ha (rg s.cells j)
    have HF : Hid (Post (.returned (.tuple #[])) (w2.drew.setCell ⟨g2, a, none⟩ (.int .i64 (rg s.cells j)))) := hp _ q1 q2
    clear hp q1 q2 W2 Wd hrow hbu
    go_wp2
    refine wp_tail 14 (by kernel_rfl) (by kernel_rfl) ?_
    simp only [List.take_succ_cons, List.take_zero, List.drop_succ_cons, List.drop_zero]
    repeat still_step
    refine wpStill_nil ?_
    go_wp2
    go_end0
    exact HF.out
  · intro hin w2 hm2 hk2
    rw [if_neg hin] at hp
    have W2 := Wq.next hm2 hk2
    have HF : Hid (Post (.returned (.tuple #[])) w2) := hp _ W2.done W2.keep
    clear hp W2 Wq hm2 hk2
    go_wp2
    go_end0
    exact HF.out

end Go.Proofs.YtblhmeidbjigaabGreatDoor

/- The machine's Store; operations from Add to Div. -/
set_option linter.unusedSimpArgs false
set_option linter.unusedVariables false
namespace Go.Proofs.YtblhmeidbjigaabGreatDoor
open Go.RowKit

set_option maxRecDepth 100000 in
set_option maxHeartbeats 4000000 in
theorem store_cps (K : Nat → Prop) (M : Nat) (s : RunD) (k c : Int) (a b : Nat) (w : World) (h : Mach K w M s) (hl : s.leak.length ≤ 100000) (ha : a < s.regs.length) (hb : b < s.regs.length) (Post : Ending → World → Prop)
    (hp : ∀ w', Mach K w' M (if 0 ≤ rg s.regs a ∧ rg s.regs a < s.cells.length then (s.out (rg s.regs a)).cell (rg s.regs a) (rg s.regs b) else (s.out (rg s.regs a)).die 2) → Keep (fun g => ¬ K g) w w' → Post (.returned (.tuple #[])) w') :
    Calls Tryz.prog 169 #[.pointer (some ⟨M, 0, none⟩), .agg #[.int .i64 k, .int .i64 a, .int .i64 b, .int .i64 c]] w Post := by
  have W0 := With.start h 36 [.int .i64 k, .int .i64 a, .int .i64 b, .int .i64 c]
  clear h
  obtain ⟨rv, cv, sv, lv, hrow, hbu, hK⟩ := id W0.mach
  obtain ⟨rb, rc, hrv, hrb, hrc, hrf⟩ := hbu.regs.at ha
  subst hrv
  have m0 := hrow.cell (i := 0) rfl
  have o1 := W0.row.cell (i := 1) rfl
  have hbi : (0 : Int) ≤ (a : Int) := by omega
  have hbj : (a : Int) < (s.regs.length : Int) := by omega
  have hn : s.regs.getD a 0 = rg s.regs a := by simp [rg]
  rw [hn] at hrc
  generalize rg s.regs a = n at *
  have Wd : ∀ d, With K w ((w.alloc (.cells #[.int .i64 k, .int .i64 a, .int .i64 b, .int .i64 c] 36)).drewN d) M w.heap.size 36 [.int .i64 k, .int .i64 a, .int .i64 b, .int .i64 c] s := fun d => W0.below (below_drewN (Below.refl _ _) d)
  clear W0 hrow hbu
  go_enter Tryz.func169, Tryz.ntmps169
  go_wp2
  go_quiet (fail)
  go_wp2_with fail
  generalize hwq : (w.alloc (.cells #[.int .i64 k, .int .i64 a, .int .i64 b, .int .i64 c] 36)).drewN _ = wq
  have Wq : With K w wq M w.heap.size 36 [.int .i64 k, .int .i64 a, .int .i64 b, .int .i64 c] s := by rw [← hwq]; exact Wd _
  clear Wd hwq m0 o1 hrc hrf
  refine reaches_cps _ M s n wq Wq.mach hl _ ?_ ?_
  · intro hin w2 hm2 hk2
    rw [if_pos hin] at hp
    obtain ⟨hn0, hn1⟩ := hin
    obtain ⟨j, rfl⟩ := Int.eq_ofNat_of_zero_le hn0
    have W2 := Wq.next hm2 hk2
    clear Wq hm2 hk2
    have Wd := W2.below ((Below.refl w2.heap.size w2).drew)
    obtain ⟨rv, cv, sv, lv, hrow, hbu, hK⟩ := id Wd.mach
    obtain ⟨g1, cc, hcv, hgc, hcc, hcf⟩ := hbu.cells.at (i := j) (by show j < s.cells.length; omega)
    obtain ⟨g2, rc, hrv, hgr, hrc, hrf⟩ := hbu.regs.at (i := b) hb
    subst hcv hrv
    have e1 : (s.out j).regs.getD b 0 = rg s.regs b := by simp [rg, RunD.out]
    rw [e1] at hrc
    have m0 := hrow.cell (i := 0) rfl
    have m1 := hrow.cell (i := 1) rfl
    have o2 := Wd.row.cell (i := 2) rfl
    have f2 := hcf j
    have hai : (0 : Int) ≤ (b : Int) := by omega
    have haj : (b : Int) < ((s.out j).regs.length : Int) := by show (b : Int) < (s.regs.length : Int); omega
    have hji : (0 : Int) ≤ (j : Int) := by omega
    have hjj : (j : Int) < ((s.out j).cells.length : Int) := hn1
    obtain ⟨q1, q2⟩ := Wd.setMem hrow hbu hgc (i := j) (by show j < s.cells.length; omega) (rg s.regs b)
    have HF : Hid (Post (.returned (.tuple #[])) (w2.drew.setCell ⟨g1, j, none⟩ (.int .i64 (rg s.regs b)))) := hp _ q1 q2
    clear hp q1 q2 W2 Wd hrow hbu
    go_wp2
    refine wp_tail 14 (by kernel_rfl) (by kernel_rfl) ?_
    simp only [List.take_succ_cons, List.take_zero, List.drop_succ_cons, List.drop_zero]
    repeat still_step
    refine wpStill_nil ?_
    go_wp2
    go_end0
    exact HF.out
  · intro hin w2 hm2 hk2
    rw [if_neg hin] at hp
    have W2 := Wq.next hm2 hk2
    have HF : Hid (Post (.returned (.tuple #[])) w2) := hp _ W2.done W2.keep
    clear hp W2 Wq hm2 hk2
    go_wp2
    go_end0
    exact HF.out

/-- The machine traps. -/
theorem With.trap {K : Nat → Prop} {w0 w : World} {M O : Nat} {t : TypeId} {xs : List Value} {s : RunD} (h : With K w0 w M O t xs s) {rv cv sv lv : Value} (hrow : Row w M 126 [rv, cv, sv, lv, .int .i64 s.trap]) (hb : Bunch (fun g => K g ∨ g = O) w rv cv sv lv s) (u : Int) :
    Mach K (w.setCell ⟨M, 4, none⟩ (.int .i64 u)) M (s.die u) ∧ Keep (fun g => ¬ K g) w0 (w.setCell ⟨M, 4, none⟩ (.int .i64 u)) := by
  have hM : ¬ K M := by obtain ⟨_, _, _, _, _, _, h3⟩ := h.mach; exact fun e => h3 (.inl e)
  have b2 := (hb.far hrow (by decide) 4 (.int .i64 u)).trapped u
  have b3 := b2.kept (K' := K) (fun g hg => .inl (.inl hg)) (fun g hg => by have := h.lt g hg; have := h.keep.size; simp; omega) (Below.refl _ _)
  exact ⟨⟨rv, cv, sv, lv, hrow.set 4 (.int .i64 u), b3, hM⟩, h.keep.setCell (.inl hM) _⟩

set_option maxRecDepth 100000 in
set_option maxHeartbeats 4000000 in
theorem compute_cps (K : Nat → Prop) (M : Nat) (s : RunD) (k : Int) (a b c : Nat) (w : World) (h : Mach K w M s) (hl : s.leak.length ≤ 99999) (hk : 3 ≤ k ∧ k ≤ 11) (ha : a < s.regs.length) (hb : b < s.regs.length) (hc : c < s.regs.length) (Post : Ending → World → Prop)
    (hp : ∀ w', Mach K w' M (if k = 11 then (if rg s.regs c = 0 then ((s.out (rg s.regs b)).out (rg s.regs c)).die 3 else ((s.out (rg s.regs b)).out (rg s.regs c)).reg a (calcW 11 (rg s.regs b) (rg s.regs c))) else s.reg a (calcW k (rg s.regs b) (rg s.regs c))) → Keep (fun g => ¬ K g) w w' → Post (.returned (.tuple #[])) w') :
    Calls Tryz.prog 170 #[.pointer (some ⟨M, 0, none⟩), .agg #[.int .i64 k, .int .i64 a, .int .i64 b, .int .i64 c]] w Post := by
  have W0 := With.start h 36 [.int .i64 k, .int .i64 a, .int .i64 b, .int .i64 c]
  clear h
  obtain ⟨rv, cv, sv, lv, hrow, hbu, hK⟩ := id W0.mach
  obtain ⟨rb, rc, hrv, hrb, hrc, hrf⟩ := hbu.regs.at hb
  subst hrv
  have m0 := hrow.cell (i := 0) rfl
  have o2 := W0.row.cell (i := 2) rfl
  have hbi : (0 : Int) ≤ (b : Int) := by omega
  have hbj : (b : Int) < (s.regs.length : Int) := by omega
  have hn : s.regs.getD b 0 = rg s.regs b := by simp [rg]
  rw [hn] at hrc
  generalize rg s.regs b = x at *
  have Wd : ∀ d, With K w ((w.alloc (.cells #[.int .i64 k, .int .i64 a, .int .i64 b, .int .i64 c] 36)).drewN d) M w.heap.size 36 [.int .i64 k, .int .i64 a, .int .i64 b, .int .i64 c] s := fun d => W0.below (below_drewN (Below.refl _ _) d)
  clear W0 hrow hbu
  go_enter Tryz.func170, Tryz.ntmps170
  go_wp2
  go_quiet (fail)
  go_wp2
  generalize hwq : (w.alloc (.cells #[.int .i64 k, .int .i64 a, .int .i64 b, .int .i64 c] 36)).drewN _ = wq
  have Wq : With K w wq M w.heap.size 36 [.int .i64 k, .int .i64 a, .int .i64 b, .int .i64 c] s := by rw [← hwq]; exact Wd _
  clear Wd hwq m0 o2 hrc hrf hrb hK hbi hbj hn
  obtain ⟨rv, cv, sv, lv, hrow, hbu, hK⟩ := id Wq.mach
  obtain ⟨rb, rc, hrv, hrb, hrc, hrf⟩ := hbu.regs.at hc
  subst hrv
  have m0 := hrow.cell (i := 0) rfl
  have o3 := Wq.row.cell (i := 3) rfl
  have hbi : (0 : Int) ≤ (c : Int) := by omega
  have hbj : (c : Int) < (s.regs.length : Int) := by omega
  have hn : s.regs.getD c 0 = rg s.regs c := by simp [rg]
  rw [hn] at hrc
  generalize rg s.regs c = y at *
  go_quiet (fail)
  have Wd : ∀ d, With K w (wq.drewN d) M w.heap.size 36 [.int .i64 k, .int .i64 a, .int .i64 b, .int .i64 c] s := fun d => Wq.below (below_drewN (Below.refl _ _) d)
  clear Wq hrow hbu
  generalize hwq : wq.drewN _ = wp
  have Wp : With K w wp M w.heap.size 36 [.int .i64 k, .int .i64 a, .int .i64 b, .int .i64 c] s := by rw [← hwq]; exact Wd _
  clear Wd hwq m0 o3 hrc hrf hrb hK hbi hbj hn
  have o0 := Wp.row.cell (i := 0) rfl
  by_cases h11 : k = 11
  · subst h11
    go_wp2_with fail
    refine letOut_cps _ M s x wp Wp.mach (by omega) _ ?_
    intro w3 hm3 hk3
    have W3 := Wp.next hm3 hk3
    clear Wp hm3 hk3 o0
    go_wp2_with fail
    refine letOut_cps _ M _ y w3 W3.mach (by simp [RunD.out]; omega) _ ?_
    intro w4 hm4 hk4
    have W4 := W3.next hm4 hk4
    clear W3 hm4 hk4
    have o0 := W4.row.cell (i := 0) rfl
    by_cases hy : y = 0
    · subst hy
      obtain ⟨rv, cv, sv, lv, hrow, hbu, hK⟩ := id W4.mach
      have m4 := hrow.cell (i := 4) rfl
      have f4 := hrow.frozen 4
      obtain ⟨q1, q2⟩ := W4.trap hrow hbu 3
      have HF : Hid (Post (.returned (.tuple #[])) (w4.setCell ⟨M, 4, none⟩ (.int .i64 3))) := hp _ (by simpa using q1) q2
      clear hp q1 q2 W4 hrow hbu
      go_wp2_with (go_at_call 187; refine (wordOf_zero _ _).mono ?_; rintro e w' ⟨rfl, rfl⟩)
      exact bodyPost_ret (v := .tuple #[]) (by simp [results, Tryz.results170, go_sem]) rfl HF.out
    · have Wd := W4.below ((Below.refl w4.heap.size w4).drew)
      obtain ⟨rv, cv, sv, lv, hrow, hbu, hK⟩ := id Wd.mach
      obtain ⟨g2, rc, hrv, hgr, hrc, hrf⟩ := hbu.regs.at (i := a) ha
      subst hrv
      have m0 := hrow.cell (i := 0) rfl
      have o1 := Wd.row.cell (i := 1) rfl
      have f2 := hrf a
      have hai : (0 : Int) ≤ (a : Int) := by omega
      have haj : (a : Int) < (((s.out x).out y).regs.length : Int) := by show (a : Int) < (s.regs.length : Int); omega
      obtain ⟨q1, q2⟩ := Wd.setReg hrow hbu hgr (i := a) ha (calcW 11 x y)
      have HF : Hid (Post (.returned (.tuple #[])) (w4.drew.setCell ⟨g2, a, none⟩ (.int .i64 (calcW 11 x y)))) := hp _ (by simpa [hy] using q1) q2
      clear hp q1 q2 W4 Wd hrow hbu
      go_wp2_with (go_at_call 187; refine (wordOf_any 11 x y _ (by omega) (fun _ => hy)).mono ?_; rintro e w' ⟨rfl, rfl⟩)
      generalize calcW 11 x y = v at *
      refine wp_tail 8 (by kernel_rfl) (by kernel_rfl) ?_
      simp only [List.take_succ_cons, List.take_zero, List.drop_succ_cons, List.drop_zero]
      repeat still_step
      refine wpStill_nil ?_
      go_wp2
      go_end0
      exact HF.out
  · have h11' : (k == 11) = false := by simp [h11]
    rw [if_neg h11] at hp
    have Wd := Wp.below ((Below.refl wp.heap.size wp).drew)
    obtain ⟨rv, cv, sv, lv, hrow, hbu, hK⟩ := id Wd.mach
    obtain ⟨g2, rc, hrv, hgr, hrc, hrf⟩ := hbu.regs.at (i := a) ha
    subst hrv
    have m0 := hrow.cell (i := 0) rfl
    have o1 := Wd.row.cell (i := 1) rfl
    have f2 := hrf a
    have hai : (0 : Int) ≤ (a : Int) := by omega
    have haj : (a : Int) < (s.regs.length : Int) := by omega
    obtain ⟨q1, q2⟩ := Wd.setReg hrow hbu hgr (i := a) ha (calcW k x y)
    have HF : Hid (Post (.returned (.tuple #[])) (wp.drew.setCell ⟨g2, a, none⟩ (.int .i64 (calcW k x y)))) := hp _ q1 q2
    clear hp q1 q2 Wp Wd hrow hbu
    go_wp2_with (go_at_call 187; refine (wordOf_any k x y _ hk (fun e => absurd e h11)).mono ?_; rintro e w' ⟨rfl, rfl⟩)
    generalize calcW k x y = v at *
    refine wp_tail 8 (by kernel_rfl) (by kernel_rfl) ?_
    simp only [List.take_succ_cons, List.take_zero, List.drop_succ_cons, List.drop_zero]
    repeat still_step
    refine wpStill_nil ?_
    go_wp2
    go_end0
    exact HF.out

end Go.Proofs.YtblhmeidbjigaabGreatDoor

/- The machine does an operation; the operations of a block; where it goes on. -/
set_option linter.unusedSimpArgs false
set_option linter.unusedVariables false
namespace Go.Proofs.YtblhmeidbjigaabGreatDoor
open Go.RowKit

theorem opGood_kind {regs slots : Int} {o : OpD} (h : opGood regs slots o = true) : 1 ≤ o.kind ∧ o.kind ≤ 15 := by
  unfold opGood at h
  repeat' split at h
  all_goals first | omega | simp at h

set_option maxRecDepth 100000 in
set_option maxHeartbeats 1000000 in
theorem do_1 (K : Nat → Prop) (M : Nat) (s : RunD) (a b c : Int) (regs data slots : Int) (w : World) (h : Mach K w M s) (hl : s.leak.length ≤ 99999) (hz : Sized s regs data slots) (hg : opGood regs slots ⟨1, a, b, c⟩ = true) (Post : Ending → World → Prop)
    (hp : ∀ w', Mach K w' M (stepOp s ⟨1, a, b, c⟩) → Keep (fun g => ¬ K g) w w' → Post (.returned (.tuple #[])) w') :
    Calls Tryz.prog 140 #[.pointer (some ⟨M, 0, none⟩), .agg #[.int .i64 1, .int .i64 a, .int .i64 b, .int .i64 c]] w Post := by
  obtain ⟨zr, zc, zs⟩ := hz
  have W0 := With.start h 36 [.int .i64 1, .int .i64 a, .int .i64 b, .int .i64 c]
  have o0 := W0.row.cell (i := 0) rfl
  clear h
  simp only [opGood, below, if_true, Bool.and_eq_true, decide_eq_true_eq] at hg
  obtain ⟨⟨ga, gb⟩, gc⟩ := hg
  obtain ⟨a, rfl⟩ := Int.eq_ofNat_of_zero_le ga.1
  simp only [stepOp, if_true] at hp
  have ha : a < s.regs.length := by omega
  have Wd := W0.below ((Below.refl _ _).drew)
  obtain ⟨rv, cv, sv, lv, hrow, hbu, hK⟩ := id Wd.mach
  obtain ⟨g2, rc, hrv, hgr, hrc, hrf⟩ := hbu.regs.at (i := a) ha
  subst hrv
  have m0 := hrow.cell (i := 0) rfl
  have o1 := Wd.row.cell (i := 1) rfl
  have o2 := Wd.row.cell (i := 2) rfl
  have o3 := Wd.row.cell (i := 3) rfl
  have f2 := hrf a
  have hai : (0 : Int) ≤ (a : Int) := by omega
  have haj : (a : Int) < (s.regs.length : Int) := by omega
  obtain ⟨q1, q2⟩ := Wd.setReg hrow hbu hgr (i := a) ha (256 * b + c - 32768)
  have HF : Hid (Post (.returned (.tuple #[])) ((w.alloc (.cells #[.int .i64 1, .int .i64 a, .int .i64 b, .int .i64 c] 36)).drew.setCell ⟨g2, a, none⟩ (.int .i64 (256 * b + c - 32768)))) := hp _ q1 q2
  have hof := ofConst_any b c (w.alloc (.cells #[.int .i64 1, .int .i64 a, .int .i64 b, .int .i64 c] 36)).drew gb gc
  clear hp q1 q2 W0 Wd hrow hbu
  go_enter Tryz.func140, Tryz.ntmps140
  go_wp2
  refine wp_tail 12 (by kernel_rfl) (by kernel_rfl) ?_
  simp only [List.take_succ_cons, List.take_zero, List.drop_succ_cons, List.drop_zero]
  repeat still_step
  still_call (hof.mono (fun e w' h => ⟨h.1, h.2.symm⟩))
  repeat still_step
  refine wpStill_nil ?_
  go_wp2
  go_end0
  exact HF.out

set_option maxRecDepth 100000 in
set_option maxHeartbeats 1000000 in
theorem do_2 (K : Nat → Prop) (M : Nat) (s : RunD) (a b c : Int) (regs data slots : Int) (w : World) (h : Mach K w M s) (hl : s.leak.length ≤ 99999) (hz : Sized s regs data slots) (hg : opGood regs slots ⟨2, a, b, c⟩ = true) (Post : Ending → World → Prop)
    (hp : ∀ w', Mach K w' M (stepOp s ⟨2, a, b, c⟩) → Keep (fun g => ¬ K g) w w' → Post (.returned (.tuple #[])) w') :
    Calls Tryz.prog 140 #[.pointer (some ⟨M, 0, none⟩), .agg #[.int .i64 2, .int .i64 a, .int .i64 b, .int .i64 c]] w Post := by
  obtain ⟨zr, zc, zs⟩ := hz
  have W0 := With.start h 36 [.int .i64 2, .int .i64 a, .int .i64 b, .int .i64 c]
  have o0 := W0.row.cell (i := 0) rfl
  clear h
  simp [opGood, below] at hg
  obtain ⟨⟨ga, gb⟩, gc⟩ := hg
  subst gc
  obtain ⟨a, rfl⟩ := Int.eq_ofNat_of_zero_le ga.1
  obtain ⟨b, rfl⟩ := Int.eq_ofNat_of_zero_le gb.1
  simp [stepOp] at hp
  have ha : a < s.regs.length := by omega
  have hb : b < s.regs.length := by omega
  have Wd := W0.below ((Below.refl _ _).drew)
  obtain ⟨rv, cv, sv, lv, hrow, hbu, hK⟩ := id Wd.mach
  obtain ⟨g2, rc, hrv, hgr, hrc, hrf⟩ := hbu.regs.at (i := a) ha
  obtain ⟨g1, rc1, hrv1, hgr1, hrc1, hrf1⟩ := hbu.regs.at (i := b) hb
  have e1 : s.regs.getD b 0 = rg s.regs b := by simp [rg]
  rw [e1] at hrc1
  have m0 := hrow.cell (i := 0) rfl
  have m1 := hrow.cell (i := 0) rfl
  have o1 := Wd.row.cell (i := 1) rfl
  have o2 := Wd.row.cell (i := 2) rfl
  have f2 := hrf a
  have hai : (0 : Int) ≤ (a : Int) := by omega
  have haj : (a : Int) < (s.regs.length : Int) := by omega
  have hbi : (0 : Int) ≤ (b : Int) := by omega
  have hbj : (b : Int) < (s.regs.length : Int) := by omega
  obtain ⟨q1, q2⟩ := Wd.setReg hrow hbu hgr (i := a) ha (rg s.regs b)
  have HF : Hid (Post (.returned (.tuple #[])) ((w.alloc (.cells #[.int .i64 2, .int .i64 a, .int .i64 b, .int .i64 0] 36)).drew.setCell ⟨g2, a, none⟩ (.int .i64 (rg s.regs b)))) := hp _ q1 q2
  rw [hrv] at hrv1 m0 m1
  simp only [Value.slice.injEq, Option.some.injEq, Addr.mk.injEq, true_and, and_true] at hrv1
  obtain ⟨rfl, rfl⟩ := hrv1
  clear hp q1 q2 W0 Wd hrow hbu
  go_enter Tryz.func140, Tryz.ntmps140
  go_wp2
  refine wp_tail 15 (by kernel_rfl) (by kernel_rfl) ?_
  simp only [List.take_succ_cons, List.take_zero, List.drop_succ_cons, List.drop_zero]
  repeat still_step
  refine wpStill_nil ?_
  go_wp2
  go_end0
  exact HF.out

set_option maxRecDepth 100000 in
set_option maxHeartbeats 1000000 in
theorem do_12 (K : Nat → Prop) (M : Nat) (s : RunD) (a b c : Int) (regs data slots : Int) (w : World) (h : Mach K w M s) (hl : s.leak.length ≤ 99999) (hz : Sized s regs data slots) (hg : opGood regs slots ⟨12, a, b, c⟩ = true) (Post : Ending → World → Prop)
    (hp : ∀ w', Mach K w' M (stepOp s ⟨12, a, b, c⟩) → Keep (fun g => ¬ K g) w w' → Post (.returned (.tuple #[])) w') :
    Calls Tryz.prog 140 #[.pointer (some ⟨M, 0, none⟩), .agg #[.int .i64 12, .int .i64 a, .int .i64 b, .int .i64 c]] w Post := by
  obtain ⟨zr, zc, zs⟩ := hz
  have W0 := With.start h 36 [.int .i64 12, .int .i64 a, .int .i64 b, .int .i64 c]
  have o0 := W0.row.cell (i := 0) rfl
  clear h
  simp [opGood, below] at hg
  obtain ⟨⟨ga, gb⟩, gc⟩ := hg
  subst gc
  obtain ⟨a, rfl⟩ := Int.eq_ofNat_of_zero_le ga.1
  obtain ⟨b, rfl⟩ := Int.eq_ofNat_of_zero_le gb.1
  have HP : Hid (∀ w', Mach K w' M (stepOp s ⟨12, a, b, 0⟩) → Keep (fun g => ¬ K g) w w' → Post (.returned (.tuple #[])) w') := hp
  clear hp
  have o1 := W0.row.cell (i := 1) rfl
  have o2 := W0.row.cell (i := 2) rfl
  have o3 := W0.row.cell (i := 3) rfl
  go_enter Tryz.func140, Tryz.ntmps140
  go_wp2_with fail
  refine load_cps _ M s 12 0 a b _ W0.mach (by omega) (by omega) (by omega) _ ?_
  intro w2 hm hk
  have W2 := W0.next (s' := stepOp s ⟨12, a, b, 0⟩) (by simpa [stepOp] using hm) hk
  have HF : Hid (Post (.returned (.tuple #[])) w2) := HP.out _ W2.done W2.keep
  clear HP W0 W2 hm hk
  go_wp2
  go_end0
  exact HF.out

set_option maxRecDepth 100000 in
set_option maxHeartbeats 1000000 in
theorem do_13 (K : Nat → Prop) (M : Nat) (s : RunD) (a b c : Int) (regs data slots : Int) (w : World) (h : Mach K w M s) (hl : s.leak.length ≤ 99999) (hz : Sized s regs data slots) (hg : opGood regs slots ⟨13, a, b, c⟩ = true) (Post : Ending → World → Prop)
    (hp : ∀ w', Mach K w' M (stepOp s ⟨13, a, b, c⟩) → Keep (fun g => ¬ K g) w w' → Post (.returned (.tuple #[])) w') :
    Calls Tryz.prog 140 #[.pointer (some ⟨M, 0, none⟩), .agg #[.int .i64 13, .int .i64 a, .int .i64 b, .int .i64 c]] w Post := by
  obtain ⟨zr, zc, zs⟩ := hz
  have W0 := With.start h 36 [.int .i64 13, .int .i64 a, .int .i64 b, .int .i64 c]
  have o0 := W0.row.cell (i := 0) rfl
  clear h
  simp [opGood, below] at hg
  obtain ⟨⟨ga, gb⟩, gc⟩ := hg
  subst gc
  obtain ⟨a, rfl⟩ := Int.eq_ofNat_of_zero_le ga.1
  obtain ⟨b, rfl⟩ := Int.eq_ofNat_of_zero_le gb.1
  have HP : Hid (∀ w', Mach K w' M (stepOp s ⟨13, a, b, 0⟩) → Keep (fun g => ¬ K g) w w' → Post (.returned (.tuple #[])) w') := hp
  clear hp
  have o1 := W0.row.cell (i := 1) rfl
  have o2 := W0.row.cell (i := 2) rfl
  have o3 := W0.row.cell (i := 3) rfl
  go_enter Tryz.func140, Tryz.ntmps140
  go_wp2_with fail
  refine store_cps _ M s 13 0 a b _ W0.mach (by omega) (by omega) (by omega) _ ?_
  intro w2 hm hk
  have W2 := W0.next (s' := stepOp s ⟨13, a, b, 0⟩) (by simpa [stepOp] using hm) hk
  have HF : Hid (Post (.returned (.tuple #[])) w2) := HP.out _ W2.done W2.keep
  clear HP W0 W2 hm hk
  go_wp2
  go_end0
  exact HF.out

set_option maxRecDepth 100000 in
set_option maxHeartbeats 1000000 in
theorem do_14 (K : Nat → Prop) (M : Nat) (s : RunD) (a b c : Int) (regs data slots : Int) (w : World) (h : Mach K w M s) (hl : s.leak.length ≤ 99999) (hz : Sized s regs data slots) (hg : opGood regs slots ⟨14, a, b, c⟩ = true) (Post : Ending → World → Prop)
    (hp : ∀ w', Mach K w' M (stepOp s ⟨14, a, b, c⟩) → Keep (fun g => ¬ K g) w w' → Post (.returned (.tuple #[])) w') :
    Calls Tryz.prog 140 #[.pointer (some ⟨M, 0, none⟩), .agg #[.int .i64 14, .int .i64 a, .int .i64 b, .int .i64 c]] w Post := by
  obtain ⟨zr, zc, zs⟩ := hz
  have W0 := With.start h 36 [.int .i64 14, .int .i64 a, .int .i64 b, .int .i64 c]
  have o0 := W0.row.cell (i := 0) rfl
  clear h
  simp [opGood, below] at hg
  obtain ⟨⟨ga, gb⟩, gc⟩ := hg
  subst gc
  obtain ⟨a, rfl⟩ := Int.eq_ofNat_of_zero_le ga.1
  obtain ⟨b, rfl⟩ := Int.eq_ofNat_of_zero_le gb.1
  simp [stepOp] at hp
  have ha : a < s.slots.length := by omega
  have hb : b < s.regs.length := by omega
  have Wd := W0.below ((Below.refl _ _).drew)
  obtain ⟨rv, cv, sv, lv, hrow, hbu, hK⟩ := id Wd.mach
  obtain ⟨g2, rc, hrv, hgr, hrc, hrf⟩ := hbu.slots.at (i := a) ha
  obtain ⟨g1, rc1, hrv1, hgr1, hrc1, hrf1⟩ := hbu.regs.at (i := b) hb
  have e1 : s.regs.getD b 0 = rg s.regs b := by simp [rg]
  rw [e1] at hrc1
  have m0 := hrow.cell (i := 2) rfl
  have m1 := hrow.cell (i := 0) rfl
  have o1 := Wd.row.cell (i := 1) rfl
  have o2 := Wd.row.cell (i := 2) rfl
  have f2 := hrf a
  have hai : (0 : Int) ≤ (a : Int) := by omega
  have haj : (a : Int) < (s.slots.length : Int) := by omega
  have hbi : (0 : Int) ≤ (b : Int) := by omega
  have hbj : (b : Int) < (s.regs.length : Int) := by omega
  obtain ⟨q1, q2⟩ := Wd.setSlot hrow hbu hgr (i := a) ha (rg s.regs b)
  have HF : Hid (Post (.returned (.tuple #[])) ((w.alloc (.cells #[.int .i64 14, .int .i64 a, .int .i64 b, .int .i64 0] 36)).drew.setCell ⟨g2, a, none⟩ (.int .i64 (rg s.regs b)))) := hp _ q1 q2
  subst hrv
  subst hrv1
  clear hp q1 q2 W0 Wd hrow hbu
  go_enter Tryz.func140, Tryz.ntmps140
  go_wp2
  refine wp_tail 15 (by kernel_rfl) (by kernel_rfl) ?_
  simp only [List.take_succ_cons, List.take_zero, List.drop_succ_cons, List.drop_zero]
  repeat still_step
  refine wpStill_nil ?_
  go_wp2
  go_end0
  exact HF.out

set_option maxRecDepth 100000 in
set_option maxHeartbeats 1000000 in
theorem do_15 (K : Nat → Prop) (M : Nat) (s : RunD) (a b c : Int) (regs data slots : Int) (w : World) (h : Mach K w M s) (hl : s.leak.length ≤ 99999) (hz : Sized s regs data slots) (hg : opGood regs slots ⟨15, a, b, c⟩ = true) (Post : Ending → World → Prop)
    (hp : ∀ w', Mach K w' M (stepOp s ⟨15, a, b, c⟩) → Keep (fun g => ¬ K g) w w' → Post (.returned (.tuple #[])) w') :
    Calls Tryz.prog 140 #[.pointer (some ⟨M, 0, none⟩), .agg #[.int .i64 15, .int .i64 a, .int .i64 b, .int .i64 c]] w Post := by
  obtain ⟨zr, zc, zs⟩ := hz
  have W0 := With.start h 36 [.int .i64 15, .int .i64 a, .int .i64 b, .int .i64 c]
  have o0 := W0.row.cell (i := 0) rfl
  clear h
  simp [opGood, below] at hg
  obtain ⟨⟨ga, gb⟩, gc⟩ := hg
  subst gc
  obtain ⟨a, rfl⟩ := Int.eq_ofNat_of_zero_le ga.1
  obtain ⟨b, rfl⟩ := Int.eq_ofNat_of_zero_le gb.1
  simp [stepOp] at hp
  have ha : a < s.regs.length := by omega
  have hb : b < s.slots.length := by omega
  have Wd := W0.below ((Below.refl _ _).drew)
  obtain ⟨rv, cv, sv, lv, hrow, hbu, hK⟩ := id Wd.mach
  obtain ⟨g2, rc, hrv, hgr, hrc, hrf⟩ := hbu.regs.at (i := a) ha
  obtain ⟨g1, rc1, hrv1, hgr1, hrc1, hrf1⟩ := hbu.slots.at (i := b) hb
  have e1 : s.slots.getD b 0 = rg s.slots b := by simp [rg]
  rw [e1] at hrc1
  have m0 := hrow.cell (i := 0) rfl
  have m1 := hrow.cell (i := 2) rfl
  have o1 := Wd.row.cell (i := 1) rfl
  have o2 := Wd.row.cell (i := 2) rfl
  have f2 := hrf a
  have hai : (0 : Int) ≤ (a : Int) := by omega
  have haj : (a : Int) < (s.regs.length : Int) := by omega
  have hbi : (0 : Int) ≤ (b : Int) := by omega
  have hbj : (b : Int) < (s.slots.length : Int) := by omega
  obtain ⟨q1, q2⟩ := Wd.setReg hrow hbu hgr (i := a) ha (rg s.slots b)
  have HF : Hid (Post (.returned (.tuple #[])) ((w.alloc (.cells #[.int .i64 15, .int .i64 a, .int .i64 b, .int .i64 0] 36)).drew.setCell ⟨g2, a, none⟩ (.int .i64 (rg s.slots b)))) := hp _ q1 q2
  subst hrv
  subst hrv1
  clear hp q1 q2 W0 Wd hrow hbu
  go_enter Tryz.func140, Tryz.ntmps140
  go_wp2
  refine wp_tail 15 (by kernel_rfl) (by kernel_rfl) ?_
  simp only [List.take_succ_cons, List.take_zero, List.drop_succ_cons, List.drop_zero]
  repeat still_step
  refine wpStill_nil ?_
  go_wp2
  go_end0
  exact HF.out

set_option maxRecDepth 100000 in
set_option maxHeartbeats 1000000 in
theorem do_cps (K : Nat → Prop) (M : Nat) (s : RunD) (o : OpD) (regs data slots : Int) (w : World) (h : Mach K w M s) (hl : s.leak.length ≤ 99999) (hz : Sized s regs data slots) (hg : opGood regs slots o = true) (Post : Ending → World → Prop)
    (hp : ∀ w', Mach K w' M (stepOp s o) → Keep (fun g => ¬ K g) w w' → Post (.returned (.tuple #[])) w') :
    Calls Tryz.prog 140 #[.pointer (some ⟨M, 0, none⟩), .agg #[.int .i64 o.kind, .int .i64 o.a, .int .i64 o.b, .int .i64 o.c]] w Post := by
  have hkk := opGood_kind hg
  obtain ⟨k, a, b, c⟩ := o
  simp only at hkk ⊢
  by_cases h1 : k = 1
  · subst h1
    exact do_1 K M s a b c regs data slots w h hl hz hg Post hp
  by_cases h2 : k = 2
  · subst h2
    exact do_2 K M s a b c regs data slots w h hl hz hg Post hp
  by_cases h12 : k = 12
  · subst h12
    exact do_12 K M s a b c regs data slots w h hl hz hg Post hp
  by_cases h13 : k = 13
  · subst h13
    exact do_13 K M s a b c regs data slots w h hl hz hg Post hp
  by_cases h14 : k = 14
  · subst h14
    exact do_14 K M s a b c regs data slots w h hl hz hg Post hp
  by_cases h15 : k = 15
  · subst h15
    exact do_15 K M s a b c regs data slots w h hl hz hg Post hp
  obtain ⟨zr, zc, zs⟩ := hz
  have W0 := With.start h 36 [.int .i64 k, .int .i64 a, .int .i64 b, .int .i64 c]
  have o0 := W0.row.cell (i := 0) rfl
  clear h
  have hk3 : 3 ≤ k ∧ k ≤ 11 := by omega
  have hgg : (0 ≤ a ∧ a < regs) ∧ (0 ≤ b ∧ b < regs) ∧ 0 ≤ c ∧ c < regs := by
    unfold opGood at hg
    rw [if_neg (by simpa using h1), if_pos (by simpa using hk3)] at hg
    simp [below] at hg
    omega
  clear hg
  obtain ⟨ga, gb, gc⟩ := hgg
  obtain ⟨a, rfl⟩ := Int.eq_ofNat_of_zero_le ga.1
  obtain ⟨b, rfl⟩ := Int.eq_ofNat_of_zero_le gb.1
  obtain ⟨c, rfl⟩ := Int.eq_ofNat_of_zero_le gc.1
  have HP : Hid (∀ w', Mach K w' M (stepOp s ⟨k, a, b, c⟩) → Keep (fun g => ¬ K g) w w' → Post (.returned (.tuple #[])) w') := hp
  clear hp
  have o1 := W0.row.cell (i := 1) rfl
  have o2 := W0.row.cell (i := 2) rfl
  have o3 := W0.row.cell (i := 3) rfl
  have e1 : (k == 1) = false := by simp [h1]
  have e2 : (k == 2) = false := by simp [h2]
  have e12 : (k == 12) = false := by simp [h12]
  have e13 : (k == 13) = false := by simp [h13]
  have e14 : (k == 14) = false := by simp [h14]
  have e15 : (k == 15) = false := by simp [h15]
  go_enter Tryz.func140, Tryz.ntmps140
  go_wp2_with fail
  refine compute_cps _ M s k a b c _ W0.mach (by omega) hk3 (by omega) (by omega) (by omega) _ ?_
  intro w2 hm hk
  have W2 := W0.next (s' := stepOp s ⟨k, a, b, c⟩) (by
    unfold stepOp
    simp only [h1, h2, h12, h13, h14, h15, if_false]
    by_cases h11 : k = 11
    · subst h11; simpa using hm
    · simpa [h11] using hm) hk
  have HF : Hid (Post (.returned (.tuple #[])) w2) := HP.out _ W2.done W2.keep
  clear HP W0 W2 hm hk
  go_wp2
  go_end0
  exact HF.out

end Go.Proofs.YtblhmeidbjigaabGreatDoor

/- The machine does the operations of a block; where it goes on. -/
set_option linter.unusedSimpArgs false
set_option linter.unusedVariables false
namespace Go.Proofs.YtblhmeidbjigaabGreatDoor
open Go.RowKit

theorem opsGood_at {regs slots : Int} {l : List OpD} (h : opsGood regs slots l = true) {k : Nat} (hk : k < l.length) : opGood regs slots ⟨okind l k, oa l k, ob l k, oc l k⟩ = true := by
  have := List.all_eq_true.1 h (l.getD k oz) (getD_mem' hk)
  exact this

set_option maxRecDepth 100000 in
set_option maxHeartbeats 2000000 in
theorem doAll_cps (K : Nat → Prop) (M : Nat) (s : RunD) (l : List OpD) (v : Value) (regs data slots : Int) (w : World) (h : Mach K w M s) (hl : s.leak.length + 2 * l.length ≤ 99999) (hz : Sized s regs data slots) (hg : opsGood regs slots l = true)
    (hrd : ∀ w', Keep (fun g => ¬ K g) w w' → RdOps w' v l) (Post : Ending → World → Prop)
    (hp : ∀ w', Mach K w' M (doOps l s) → Keep (fun g => ¬ K g) w w' → Post (.returned (.tuple #[])) w') :
    Calls Tryz.prog 106 #[.pointer (some ⟨M, 0, none⟩), v] w Post := by
  obtain ⟨ao, cap, rfl, hll, _⟩ := hrd w (Keep.refl _ _)
  go_enter Tryz.func106, Tryz.ntmps106
  go_wp2
  go_loopw [4] (fun i wr => ∃ (k : Nat), k ≤ l.length ∧ i = .int .i64 k ∧ Mach K wr M (doOps (l.take k) s) ∧ Keep (fun g => ¬ K g) w wr)
    (fun i _ => l.length - (intOf i).toNat)
  case atStart => exact ⟨0, Nat.zero_le _, rfl, h, Keep.refl _ _⟩
  case round =>
    clear h
    obtain ⟨k, hk, rfl, hm, hke⟩ := hrel
    have hlk : (doOps (l.take k) s).leak.length ≤ 99999 := by
      have := doOps_leak (l.take k) s
      have : (l.take k).length ≤ l.length := by rw [List.length_take]; omega
      omega
    have hzk : Sized (doOps (l.take k) s) regs data slots := hz.doOps _
    by_cases hlt : k < l.length
    · obtain ⟨rv, cv, sv, lv, hrow, hbu, hK⟩ := id hm
      have m4 := hrow.cell (i := 4) rfl
      by_cases ht : (doOps (l.take k) s).trap = 0
      · rw [ht] at m4
        obtain ⟨ao', cap', e0, _, hc⟩ := hrd wr hke
        simp only [Value.slice.injEq, true_and] at e0
        obtain ⟨rfl, rfl⟩ := e0
        obtain ⟨b, off, rfl, c0, c1, c2, c3⟩ := hc k hlt
        clear hc hrow hbu
        go_wp2_with fail
        refine do_cps K M _ ⟨okind l k, oa l k, ob l k, oc l k⟩ regs data slots wr hm hlk hzk (opsGood_at hg hlt) _ ?_
        intro w2 hm2 hk2
        have hm3 : Mach K w2 M (doOps (l.take (k + 1)) s) := by rw [doOps_take hlt, if_pos ht]; exact hm2
        have hke2 := hke.trans hk2
        clear hm hm2 hk2 hke c0 c1 c2 c3 m4
        go_wp2
        go_roundw
        case rel => exact ⟨k + 1, by omega, by go_num, hm3, hke2⟩
        case measure => simp [intOf]; omega
      · have HF : Hid (Post (.returned (.tuple #[])) wr) := hp _ (by rw [doOps_stop ht]; exact hm) hke
        have ht' : ((doOps (l.take k) s).trap == 0) = false := by simp [ht]
        clear hp hm hke hrd hrow hbu
        generalize (doOps (l.take k) s).trap = tr at *
        go_wp2
        go_end0
        exact HF.out
    · obtain rfl : k = l.length := by omega
      rw [List.take_length] at hm
      have HF : Hid (Post (.returned (.tuple #[])) wr) := hp _ hm hke
      clear hp hm hke hrd
      go_wp2
      go_end0
      exact HF.out

set_option maxRecDepth 100000 in
set_option maxHeartbeats 2000000 in
theorem after_cps (K : Nat → Prop) (M : Nat) (s : RunD) (e : EndD) (regs nb : Int) (w : World) (h : Mach K w M s) (hl : s.leak.length ≤ 99999) (hz : (s.regs.length : Int) = regs) (hg : endGood regs nb e = true) (hne : e.kind ≠ 3) (Post : Ending → World → Prop)
    (hp : ∀ w', Mach K w' M (goesOn s e) → Keep (fun g => ¬ K g) w w' → Post (.returned (.int .i64 (goesTo s e))) w') :
    Calls Tryz.prog 107 #[.pointer (some ⟨M, 0, none⟩), .agg #[.int .i64 e.kind, .int .i64 e.r, .int .i64 e.x, .int .i64 e.y]] w Post := by
  obtain ⟨k, r, x, y⟩ := e
  simp only at hne ⊢
  have W0 := With.start h 40 [.int .i64 k, .int .i64 r, .int .i64 x, .int .i64 y]
  have o0 := W0.row.cell (i := 0) rfl
  clear h
  by_cases h1 : k = 1
  · subst h1
    have o2 := W0.row.cell (i := 2) rfl
    have HF : Hid (Post (.returned (.int .i64 x)) (w.alloc (.cells #[.int .i64 1, .int .i64 r, .int .i64 x, .int .i64 y] 40))) := by
      have := hp _ (by simpa [goesOn] using W0.done) W0.keep
      show Post _ _
      simpa [goesTo] using this
    clear hp W0
    go_enter Tryz.func107, Tryz.ntmps107
    go_wp2
    exact HF.out
  · obtain rfl : k = 2 := by
      unfold endGood at hg
      simp only at hg
      repeat' split at hg
      all_goals first | omega | simp at hg
    simp [endGood, below] at hg
    obtain ⟨⟨⟨hr0, hr1⟩, _⟩, _⟩ := hg
    obtain ⟨r, rfl⟩ := Int.eq_ofNat_of_zero_le hr0
    obtain ⟨rv, cv, sv, lv, hrow, hbu, hK⟩ := id W0.mach
    obtain ⟨rb, rc, hrv, hrb, hrc, hrf⟩ := hbu.regs.at (i := r) (by omega)
    subst hrv
    have m0 := hrow.cell (i := 0) rfl
    have o1 := W0.row.cell (i := 1) rfl
    have hbi : (0 : Int) ≤ (r : Int) := by omega
    have hbj : (r : Int) < (s.regs.length : Int) := by omega
    have hn : s.regs.getD r 0 = rg s.regs r := by simp [rg]
    rw [hn] at hrc
    have hG : goesOn s ⟨2, r, x, y⟩ = s.out (if rg s.regs r = 0 then 0 else 1) := by simp [goesOn]
    have hT : goesTo s ⟨2, r, x, y⟩ = if rg s.regs r = 0 then y else x := by simp [goesTo]
    rw [hG, hT] at hp
    generalize rg s.regs r = z at *
    have Wd : ∀ d, With K w ((w.alloc (.cells #[.int .i64 2, .int .i64 r, .int .i64 x, .int .i64 y] 40)).drewN d) M w.heap.size 40 [.int .i64 2, .int .i64 r, .int .i64 x, .int .i64 y] s := fun d => W0.below (below_drewN (Below.refl _ _) d)
    clear W0 hrow hbu hG hT hn
    by_cases hz0 : z = 0
    · subst hz0
      simp only [if_true] at hp
      go_enter Tryz.func107, Tryz.ntmps107
      go_wp2
      go_quiet (fail)
      generalize hwq : (w.alloc (.cells #[.int .i64 2, .int .i64 r, .int .i64 x, .int .i64 y] 40)).drewN _ = wq
      have Wq : With K w wq M w.heap.size 40 [.int .i64 2, .int .i64 r, .int .i64 x, .int .i64 y] s := by rw [← hwq]; exact Wd _
      clear Wd hwq m0 o1 hrc hrf o0
      go_wp2_with fail
      refine letOut_cps _ M s 0 wq Wq.mach (by omega) _ ?_
      intro w3 hm3 hk3
      have W3 := Wq.next hm3 hk3
      have o3 := W3.row.cell (i := 3) rfl
      have HF : Hid (Post (.returned (.int .i64 y)) w3) := hp _ W3.done W3.keep
      clear hp Wq W3 hm3 hk3
      go_wp2
      exact HF.out
    · simp only [if_neg hz0] at hp
      have hz1 : (z == 0) = false := by simp [hz0]
      go_enter Tryz.func107, Tryz.ntmps107
      go_wp2
      go_quiet (fail)
      generalize hwq : (w.alloc (.cells #[.int .i64 2, .int .i64 r, .int .i64 x, .int .i64 y] 40)).drewN _ = wq
      have Wq : With K w wq M w.heap.size 40 [.int .i64 2, .int .i64 r, .int .i64 x, .int .i64 y] s := by rw [← hwq]; exact Wd _
      clear Wd hwq m0 o1 hrc hrf o0
      go_wp2_with fail
      refine letOut_cps _ M s 1 wq Wq.mach (by omega) _ ?_
      intro w3 hm3 hk3
      have W3 := Wq.next hm3 hk3
      have o2 := W3.row.cell (i := 2) rfl
      have HF : Hid (Post (.returned (.int .i64 x)) w3) := hp _ W3.done W3.keep
      clear hp Wq W3 hm3 hk3
      go_wp2
      exact HF.out

end Go.Proofs.YtblhmeidbjigaabGreatDoor
