/- Runs as plain data; a run underway in memory: four lists of words, each in a block of its own. -/
import Derived.Test.YtblhmeidbjigaaaRows
import Derived.WalkKit
import Derived.WalkSpells
import Derived.WalkLawsBesides
import Derived.Laws.BytesArg
import Derived.Deep.QuietTactic
import Derived.BigQuiet
import Derived.Deep.RegionHeld3
import Derived.Maps.AppendAt
import Derived.Test.YtblhmeidbjigaaaCodAToPDatRuns

set_option linter.unusedSimpArgs false
set_option linter.unusedVariables false
namespace Go.Proofs.Ytblhmeidbjigaaa
open Go.RowKit

/-! ### Runs, pure -/

structure RunD where
  regs : List Int
  cells : List Int
  slots : List Int
  leak : List Int
  trap : Int

structure OutD where
  kind : Int
  result : Int
  mem : List Int
  leak : List Int

def rg (l : List Int) (i : Int) : Int := l.getD i.toNat 0
def stI (l : List Int) (i v : Int) : List Int := l.set i.toNat v

theorem stI_length (l : List Int) (i v : Int) : (stI l i v).length = l.length := by simp [stI]

/-- A Load or Store of the cell n: it is let out. -/
def RunD.out (s : RunD) (n : Int) : RunD := ⟨s.regs, s.cells, s.slots, s.leak ++ [n], s.trap⟩
def RunD.reg (s : RunD) (i v : Int) : RunD := ⟨stI s.regs i v, s.cells, s.slots, s.leak, s.trap⟩
def RunD.cell (s : RunD) (i v : Int) : RunD := ⟨s.regs, stI s.cells i v, s.slots, s.leak, s.trap⟩
def RunD.slot (s : RunD) (i v : Int) : RunD := ⟨s.regs, s.cells, stI s.slots i v, s.leak, s.trap⟩
def RunD.die (s : RunD) (t : Int) : RunD := ⟨s.regs, s.cells, s.slots, s.leak, t⟩

def stepOp (s : RunD) (o : OpD) : RunD :=
  if o.kind = 1 then s.reg o.a (256 * o.b + o.c - 32768)
  else if o.kind = 2 then s.reg o.a (rg s.regs o.b)
  else if o.kind = 12 then
    if 0 ≤ rg s.regs o.b ∧ rg s.regs o.b < s.cells.length then (s.out (rg s.regs o.b)).reg o.a (rg s.cells (rg s.regs o.b)) else (s.out (rg s.regs o.b)).die 2
  else if o.kind = 13 then
    if 0 ≤ rg s.regs o.a ∧ rg s.regs o.a < s.cells.length then (s.out (rg s.regs o.a)).cell (rg s.regs o.a) (rg s.regs o.b) else (s.out (rg s.regs o.a)).die 2
  else if o.kind = 14 then s.slot o.a (rg s.regs o.b)
  else if o.kind = 15 then s.reg o.a (rg s.slots o.b)
  else if o.kind = 11 then
    if rg s.regs o.c = 0 then ((s.out (rg s.regs o.b)).out (rg s.regs o.c)).die 3
    else ((s.out (rg s.regs o.b)).out (rg s.regs o.c)).reg o.a (calcW 11 (rg s.regs o.b) (rg s.regs o.c))
  else s.reg o.a (calcW o.kind (rg s.regs o.b) (rg s.regs o.c))

def doOps : List OpD → RunD → RunD
  | [], s => s
  | o :: r, s => if s.trap = 0 then doOps r (stepOp s o) else s

theorem doOps_trap (l : List OpD) {s : RunD} (h : s.trap ≠ 0) : doOps l s = s := by
  cases l with
  | nil => rfl
  | cons o r => simp [doOps, h]

theorem doOps_snoc (l : List OpD) (o : OpD) (s : RunD) : doOps (l ++ [o]) s = if (doOps l s).trap = 0 then stepOp (doOps l s) o else doOps l s := by
  induction l generalizing s with
  | nil => rfl
  | cons p r ih =>
    simp only [doOps, List.cons_append]
    by_cases h : s.trap = 0
    · simp only [h, if_true]; exact ih _
    · simp only [h, if_false]

theorem doOps_take {l : List OpD} {k : Nat} (h : k < l.length) (s : RunD) : doOps (l.take (k + 1)) s = if (doOps (l.take k) s).trap = 0 then stepOp (doOps (l.take k) s) ⟨okind l k, oa l k, ob l k, oc l k⟩ else doOps (l.take k) s := by
  rw [take_getD l oz k h, doOps_snoc]; rfl

/-- A trap stays. -/
theorem doOps_stop {l : List OpD} {k : Nat} {s : RunD} (h : (doOps (l.take k) s).trap ≠ 0) : doOps l s = doOps (l.take k) s := by
  have e : ∀ (a b : List OpD) (s : RunD), doOps (a ++ b) s = doOps b (doOps a s) := by
    intro a
    induction a with
    | nil => intro b s; rfl
    | cons o r ih =>
      intro b s
      simp only [doOps, List.cons_append]
      by_cases ht : s.trap = 0
      · simp only [ht, if_true]; exact ih _ _
      · simp only [ht, if_false]; exact (doOps_trap b ht).symm
  conv => lhs; rw [← List.take_append_drop k l, e]
  exact doOps_trap _ h

/-- Where a run is: the sizes of its lists. -/
structure Sized (s : RunD) (r c k : Int) : Prop where
  regs : (s.regs.length : Int) = r
  cells : (s.cells.length : Int) = c
  slots : (s.slots.length : Int) = k

theorem Sized.out {s : RunD} {r c k : Int} (h : Sized s r c k) (n : Int) : Sized (s.out n) r c k := ⟨h.regs, h.cells, h.slots⟩
theorem Sized.die {s : RunD} {r c k : Int} (h : Sized s r c k) (n : Int) : Sized (s.die n) r c k := ⟨h.regs, h.cells, h.slots⟩
theorem Sized.reg {s : RunD} {r c k : Int} (h : Sized s r c k) (i n : Int) : Sized (s.reg i n) r c k := ⟨by simp only [RunD.reg, stI_length]; exact h.regs, h.cells, h.slots⟩
theorem Sized.cell {s : RunD} {r c k : Int} (h : Sized s r c k) (i n : Int) : Sized (s.cell i n) r c k := ⟨h.regs, by simp only [RunD.cell, stI_length]; exact h.cells, h.slots⟩
theorem Sized.slot {s : RunD} {r c k : Int} (h : Sized s r c k) (i n : Int) : Sized (s.slot i n) r c k := ⟨h.regs, h.cells, by simp only [RunD.slot, stI_length]; exact h.slots⟩

theorem Sized.step {s : RunD} {r c k : Int} (h : Sized s r c k) (o : OpD) : Sized (stepOp s o) r c k := by
  unfold stepOp
  repeat' split
  · exact h.reg _ _
  · exact h.reg _ _
  · exact (h.out _).reg _ _
  · exact (h.out _).die _
  · exact (h.out _).cell _ _
  · exact (h.out _).die _
  · exact h.slot _ _
  · exact h.reg _ _
  · exact ((h.out _).out _).die _
  · exact ((h.out _).out _).reg _ _
  · exact h.reg _ _

theorem step_leak (s : RunD) (o : OpD) : (stepOp s o).leak.length ≤ s.leak.length + 2 := by
  unfold stepOp
  repeat' split
  all_goals simp [RunD.reg, RunD.out, RunD.die, RunD.cell, RunD.slot]

theorem Sized.doOps {s : RunD} {r c k : Int} (l : List OpD) (h : Sized s r c k) : Sized (doOps l s) r c k := by
  induction l generalizing s with
  | nil => exact h
  | cons o t ih =>
    simp only [Go.Proofs.Ytblhmeidbjigaaa.doOps]
    split
    · exact ih (h.step o)
    · exact h

theorem doOps_leak (l : List OpD) (s : RunD) : (doOps l s).leak.length ≤ s.leak.length + 2 * l.length := by
  induction l generalizing s with
  | nil => simp [doOps]
  | cons o t ih =>
    simp only [doOps, List.length_cons]
    split
    · have := ih (stepOp s o); have := step_leak s o; omega
    · omega

/-- Where a run goes on, behind a Jump or a Branch. -/
def goesOn (s : RunD) (e : EndD) : RunD := if e.kind = 2 then s.out (if rg s.regs e.r = 0 then 0 else 1) else s
def goesTo (s : RunD) (e : EndD) : Int := if e.kind = 2 then (if rg s.regs e.r = 0 then e.y else e.x) else e.x

def runN (bs : List BlockD) : Nat → Int → RunD → OutD
  | 0, _, s => ⟨4, 0, s.cells, s.leak⟩
  | f + 1, i, s =>
    if (doOps (bops bs i.toNat) s).trap ≠ 0 then ⟨(doOps (bops bs i.toNat) s).trap, 0, [], (doOps (bops bs i.toNat) s).leak⟩
    else if bek bs i.toNat = 3 then ⟨1, rg (doOps (bops bs i.toNat) s).regs (ber bs i.toNat), (doOps (bops bs i.toNat) s).cells, (doOps (bops bs i.toNat) s).leak⟩
    else runN bs f (goesTo (doOps (bops bs i.toNat) s) (bfin bs i.toNat)) (goesOn (doOps (bops bs i.toNat) s) (bfin bs i.toNat))

theorem Sized.on {s : RunD} {r c k : Int} (h : Sized s r c k) (e : EndD) : Sized (goesOn s e) r c k := by
  unfold goesOn
  split
  · exact h.out _
  · exact h

/-! ### In memory -/

def ints (l : List Int) : List Value := l.map (.int .i64)

theorem ints_length (l : List Int) : (ints l).length = l.length := by simp [ints]
theorem ints_set (l : List Int) (i : Nat) (v : Int) : ints (l.set i v) = (ints l).set i (.int .i64 v) := by simp [ints, List.map_set]
theorem ints_snoc (l : List Int) (v : Int) : ints (l ++ [v]) = ints l ++ [.int .i64 v] := by simp [ints]

theorem Try.infoInt : (Try.prog.info? 3).map (fun i => (i.zero, i.size, i.bytes)) = some (some (.int .i64 0), 1, 8) := by kernel_rfl

/-- A list of words in a block of its own. -/
abbrev OwnW (w : World) (v : Value) (l : List Int) : Prop := w.ownsRow 0 3 1 v l.length (ints l)

/-- A word of a list of one's own. -/
theorem OwnW.at {w : World} {v : Value} {l : List Int} (h : OwnW w v l) {i : Nat} (hi : i < l.length) :
    ∃ b cap, v = .slice (some ⟨b, 0, none⟩) l.length cap ∧ v.ownBlock = some b ∧ w.cell? ⟨b, i, none⟩ = some (.int .i64 (l.getD i 0)) ∧ ∀ o, w.frozen? ⟨b, o, none⟩ = false := by
  obtain ⟨ao, cap, rfl⟩ := owns_slice h
  obtain ⟨b, rfl, _, hb, hc⟩ := owns_cell h rfl (i := i) (by rw [ints_length]; exact hi)
  refine ⟨b, cap, rfl, hb, ?_, fun o => owns_frozen h hb o⟩
  rw [hc]
  simp [ints, List.getD, hi]

theorem OwnW.set {w : World} {v : Value} {l : List Int} (h : OwnW w v l) {g i : Nat} (hg : v.ownBlock = some g) (hi : i < l.length) (u : Int) : OwnW (w.setCell ⟨g, i, none⟩ (.int .i64 u)) v (l.set i u) := by
  have := owns_set h hg (i := i) (by rw [ints_length]; exact hi) (.int .i64 u)
  rw [← ints_set] at this
  show World.ownsRow _ _ _ _ _ _ _
  rw [List.length_set]
  exact this

/-- A row of another type lies elsewhere. -/
theorem row_owns_apart {w : World} {H : Nat} {t : TypeId} {xs : List Value} {v : Value} {l : List Int} (hr : Row w H t xs) (h : OwnW w v l) (ht : t ≠ 3) : v.ownBlock ≠ some H := by
  intro e
  rcases h.2 with ⟨rfl, _⟩ | ⟨k, cap, cur, rfl, _, hh, _⟩
  · simp [Value.ownBlock] at e
  · simp only [Value.ownBlock, Option.some.injEq] at e
    subst e
    have := hr.symm.trans hh
    simp at this
    exact ht this.2

/-- Four lists of words, each in a block of its own; none of them a block of K. -/
structure Bunch (K : Nat → Prop) (w : World) (rv cv sv lv : Value) (s : RunD) : Prop where
  regs : OwnW w rv s.regs
  cells : OwnW w cv s.cells
  slots : OwnW w sv s.slots
  leak : OwnW w lv s.leak
  rc : ∀ g, rv.ownBlock = some g → cv.ownBlock ≠ some g
  rs : ∀ g, rv.ownBlock = some g → sv.ownBlock ≠ some g
  rl : ∀ g, rv.ownBlock = some g → lv.ownBlock ≠ some g
  cs : ∀ g, cv.ownBlock = some g → sv.ownBlock ≠ some g
  cl : ∀ g, cv.ownBlock = some g → lv.ownBlock ≠ some g
  sl : ∀ g, sv.ownBlock = some g → lv.ownBlock ≠ some g
  kr : ∀ g, rv.ownBlock = some g → ¬ K g
  kc : ∀ g, cv.ownBlock = some g → ¬ K g
  ks : ∀ g, sv.ownBlock = some g → ¬ K g
  kl : ∀ g, lv.ownBlock = some g → ¬ K g
  lt : ∀ g, K g → g < w.heap.size

section
variable {K : Nat → Prop} {w w' : World} {rv cv sv lv : Value} {s : RunD}

theorem Bunch.same (h : Bunch K w rv cv sv lv s) (hs : w.heap.size ≤ w'.heap.size) (hb : ∀ g, (rv.ownBlock = some g ∨ cv.ownBlock = some g ∨ sv.ownBlock = some g ∨ lv.ownBlock = some g) → w'.heap[g]? = w.heap[g]?) : Bunch K w' rv cv sv lv s :=
  ⟨owns_same h.regs fun g e => hb g (.inl e), owns_same h.cells fun g e => hb g (.inr (.inl e)), owns_same h.slots fun g e => hb g (.inr (.inr (.inl e))), owns_same h.leak fun g e => hb g (.inr (.inr (.inr e))),
    h.rc, h.rs, h.rl, h.cs, h.cl, h.sl, h.kr, h.kc, h.ks, h.kl, fun g hg => Nat.lt_of_lt_of_le (h.lt g hg) hs⟩

theorem Bunch.inHeap (h : Bunch K w rv cv sv lv s) {g : Nat} (hg : rv.ownBlock = some g ∨ cv.ownBlock = some g ∨ sv.ownBlock = some g ∨ lv.ownBlock = some g) : g < w.heap.size := by
  rcases hg with e | e | e | e
  · exact (World.ownsRow.lt h.regs g e).2
  · exact (World.ownsRow.lt h.cells g e).2
  · exact (World.ownsRow.lt h.slots g e).2
  · exact (World.ownsRow.lt h.leak g e).2

theorem Bunch.keep (h : Bunch K w rv cv sv lv s) (hb : Below w.heap.size w w') : Bunch K w' rv cv sv lv s :=
  h.same hb.size fun g hg => hb.block g (h.inHeap hg)

/-- A store elsewhere. -/
theorem Bunch.far (h : Bunch K w rv cv sv lv s) {H : Nat} {t : TypeId} {xs : List Value} (hr : Row w H t xs) (ht : t ≠ 3) (i : Nat) (u : Value) : Bunch K (w.setCell ⟨H, i, none⟩ u) rv cv sv lv s :=
  h.same (by simp) fun g hg => Below.heap_setCell _ _ _ _ (fun e => by
    subst e
    rcases hg with e | e | e | e
    · exact row_owns_apart hr h.regs ht e
    · exact row_owns_apart hr h.cells ht e
    · exact row_owns_apart hr h.slots ht e
    · exact row_owns_apart hr h.leak ht e)

theorem Bunch.setReg (h : Bunch K w rv cv sv lv s) {g i : Nat} (hg : rv.ownBlock = some g) (hi : i < s.regs.length) (u : Int) : Bunch K (w.setCell ⟨g, i, none⟩ (.int .i64 u)) rv cv sv lv ⟨s.regs.set i u, s.cells, s.slots, s.leak, s.trap⟩ :=
  ⟨h.regs.set hg hi u, owns_unset h.cells (h.rc g hg) _, owns_unset h.slots (h.rs g hg) _, owns_unset h.leak (h.rl g hg) _, h.rc, h.rs, h.rl, h.cs, h.cl, h.sl, h.kr, h.kc, h.ks, h.kl, fun g hg => by simpa using h.lt g hg⟩

theorem Bunch.setMem (h : Bunch K w rv cv sv lv s) {g i : Nat} (hg : cv.ownBlock = some g) (hi : i < s.cells.length) (u : Int) : Bunch K (w.setCell ⟨g, i, none⟩ (.int .i64 u)) rv cv sv lv ⟨s.regs, s.cells.set i u, s.slots, s.leak, s.trap⟩ :=
  ⟨owns_unset h.regs (fun e => h.rc g e hg) _, h.cells.set hg hi u, owns_unset h.slots (h.cs g hg) _, owns_unset h.leak (h.cl g hg) _, h.rc, h.rs, h.rl, h.cs, h.cl, h.sl, h.kr, h.kc, h.ks, h.kl, fun g hg => by simpa using h.lt g hg⟩

theorem Bunch.setSlot (h : Bunch K w rv cv sv lv s) {g i : Nat} (hg : sv.ownBlock = some g) (hi : i < s.slots.length) (u : Int) : Bunch K (w.setCell ⟨g, i, none⟩ (.int .i64 u)) rv cv sv lv ⟨s.regs, s.cells, s.slots.set i u, s.leak, s.trap⟩ :=
  ⟨owns_unset h.regs (fun e => h.rs g e hg) _, owns_unset h.cells (fun e => h.cs g e hg) _, h.slots.set hg hi u, owns_unset h.leak (h.sl g hg) _, h.rc, h.rs, h.rl, h.cs, h.cl, h.sl, h.kr, h.kc, h.ks, h.kl, fun g hg => by simpa using h.lt g hg⟩

/-- A word is let out. -/
theorem Bunch.app (h : Bunch K w rv cv sv lv s) {lv' : Value} {x : Int} (hown : w'.ownsRow 0 3 1 lv' (s.leak.length + 1) (ints s.leak ++ [.int .i64 x])) (hg : w.grownBy w' lv.ownBlock) (hat : lv'.ownBlock = lv.ownBlock ∨ lv'.ownBlock = some w.heap.size) : Bunch K w' rv cv sv lv' (s.out x) := by
  have kp : ∀ {v : Value} {l : List Int}, OwnW w v l → (∀ g, v.ownBlock = some g → lv.ownBlock ≠ some g) → OwnW w' v l := by
    intro v l hv ha
    refine World.ownsRow.kept hv hg ?_
    cases hb : v.ownBlock with
    | none => exact .inl rfl
    | some g => exact .inr (fun e => ha g hb e.symm)
  have nw : ∀ {v : Value} {l : List Int}, OwnW w v l → (∀ g, v.ownBlock = some g → lv.ownBlock ≠ some g) → ∀ g, v.ownBlock = some g → lv'.ownBlock ≠ some g := by
    intro v l hv ha g hg' e
    rcases hat with q | q
    · exact ha g hg' (q.symm.trans e)
    · rw [q] at e
      simp only [Option.some.injEq] at e
      have := (World.ownsRow.lt hv g hg').2
      omega
  refine ⟨kp h.regs h.rl, kp h.cells h.cl, kp h.slots h.sl, ?_, h.rc, h.rs, nw h.regs h.rl, h.cs, nw h.cells h.cl, nw h.slots h.sl, h.kr, h.kc, h.ks, ?_, fun g hg' => Nat.lt_of_lt_of_le (h.lt g hg') hg.size⟩
  · show World.ownsRow _ _ _ _ _ _ _
    simp only [RunD.out, List.length_append, List.length_cons, List.length_nil, Nat.zero_add]
    rw [ints_snoc]
    exact hown
  · intro g e hk
    rcases hat with q | q
    · exact h.kl g (q.symm.trans e) hk
    · rw [q] at e
      simp only [Option.some.injEq] at e
      have := h.lt g hk
      omega

theorem Bunch.trapped (h : Bunch K w rv cv sv lv s) (t : Int) : Bunch K w rv cv sv lv (s.die t) := ⟨h.regs, h.cells, h.slots, h.leak, h.rc, h.rs, h.rl, h.cs, h.cl, h.sl, h.kr, h.kc, h.ks, h.kl, h.lt⟩

/-- Fewer or other blocks are kept. -/
theorem Bunch.kept {K' : Nat → Prop} (h : Bunch K w rv cv sv lv s) (hk : ∀ g, K' g → K g ∨ w.heap.size ≤ g) (hl : ∀ g, K' g → g < w'.heap.size) (hb : Below w.heap.size w w') : Bunch K' w' rv cv sv lv s := by
  have n : ∀ {v : Value} {l : List Int}, OwnW w v l → (∀ g, v.ownBlock = some g → ¬ K g) → ∀ g, v.ownBlock = some g → ¬ K' g := by
    intro v l hv ha g e hk'
    rcases hk g hk' with q | q
    · exact ha g e q
    · have := (World.ownsRow.lt hv g e).2
      omega
  have h2 := h.keep hb
  exact ⟨h2.regs, h2.cells, h2.slots, h2.leak, h.rc, h.rs, h.rl, h.cs, h.cl, h.sl, n h.regs h.kr, n h.cells h.kc, n h.slots h.ks, n h.leak h.kl, hl⟩

end

end Go.Proofs.Ytblhmeidbjigaaa

/- Well made operations and ends, in the document's answer. -/
set_option linter.unusedSimpArgs false
set_option linter.unusedVariables false
namespace Go.Proofs.Ytblhmeidbjigaaa
open Go.RowKit

set_option maxHeartbeats 400000 in
theorem register_any (args regs data slots : Int) (bo : Option Addr) (bn bc : Nat) (n : Int) (w : World) :
    Calls Try.prog 84 #[.agg #[.int .i64 args, .int .i64 regs, .int .i64 data, .int .i64 slots, .slice bo bn bc], .int .i64 n] w fun e w' => e = .returned (.bool (below n regs)) ∧ w.alloc (.cells #[.int .i64 args, .int .i64 regs, .int .i64 data, .int .i64 slots, .slice bo bn bc] 24) = w' := by
  by_cases h : 0 ≤ n
  · go_enter Try.func84, Try.ntmps84
    go_wp2
    go_ret
    exact ⟨by simp [below, h], rfl⟩
  · have hb : below n regs = false := by simp only [below, h, false_and, decide_false]
    go_enter Try.func84, Try.ntmps84
    go_wp2
    go_ret
    exact ⟨by simp [hb], rfl⟩

set_option maxHeartbeats 400000 in
theorem slot_any (args regs data slots : Int) (bo : Option Addr) (bn bc : Nat) (n : Int) (w : World) :
    Calls Try.prog 86 #[.agg #[.int .i64 args, .int .i64 regs, .int .i64 data, .int .i64 slots, .slice bo bn bc], .int .i64 n] w fun e w' => e = .returned (.bool (below n slots)) ∧ w.alloc (.cells #[.int .i64 args, .int .i64 regs, .int .i64 data, .int .i64 slots, .slice bo bn bc] 24) = w' := by
  by_cases h : 0 ≤ n
  · go_enter Try.func86, Try.ntmps86
    go_wp2
    go_ret
    exact ⟨by simp [below, h], rfl⟩
  · have hb : below n slots = false := by simp only [below, h, false_and, decide_false]
    go_enter Try.func86, Try.ntmps86
    go_wp2
    go_ret
    exact ⟨by simp [hb], rfl⟩

set_option maxHeartbeats 400000 in
theorem octet_any (n : Int) (w : World) : Calls Try.prog 85 #[.int .i64 n] w fun e w' => e = .returned (.bool (below n 256)) ∧ w = w' := by
  by_cases h : 0 ≤ n
  · go_enter Try.func85, Try.ntmps85
    go_wp2
    go_ret
    refine ⟨?_, rfl⟩
    have : decide (n ≤ 255) = below n 256 := by simp only [below, h, true_and]; exact decide_eq_decide.2 (by omega)
    simp [← this]
  · have hb : below n 256 = false := by simp only [below, h, false_and, decide_false]
    go_enter Try.func85, Try.ntmps85
    go_wp2
    go_ret
    exact ⟨by simp [hb], rfl⟩

theorem Below.al {B : Nat} {a w : World} {o : Obj} (h : Below B a w) (hB : B ≤ a.heap.size) : Below B a (w.alloc o) := h.alloc (Nat.le_trans hB h.size) o

theorem int_beq_z (c : Int) : (c == 0) = decide (c = 0) := by by_cases h : c = 0 <;> simp [h]

set_option maxRecDepth 100000 in
set_option maxHeartbeats 2000000 in
theorem gOp1 (args regs data slots : Int) (bo : Option Addr) (bn bc : Nat) (a b c : Int) (w : World) :
    Calls Try.prog 61 #[.agg #[.int .i64 args, .int .i64 regs, .int .i64 data, .int .i64 slots, .slice bo bn bc], .agg #[.int .i64 1, .int .i64 a, .int .i64 b, .int .i64 c]] w fun e w' => e = .returned (.bool (opGood regs slots ⟨1, a, b, c⟩)) ∧ Below w.heap.size w w' := by
  cases h1 : below a regs
  · go_enter Try.func61, Try.ntmps61
    go_wp2_with (first | (go_at_call 84; refine (register_any _ _ _ _ _ _ _ _ _).mono ?_; rintro e w' ⟨rfl, rfl⟩) | (go_at_call 86; refine (slot_any _ _ _ _ _ _ _ _ _).mono ?_; rintro e w' ⟨rfl, rfl⟩) | (go_at_call 85; refine (octet_any _ _).mono ?_; rintro e w' ⟨rfl, rfl⟩))
    go_ret
    exact ⟨by simp [opGood, h1], (by (repeat refine Below.al ?_ (Nat.le_refl _)); exact Below.refl _ _)⟩
  cases h2 : below b 256
  · go_enter Try.func61, Try.ntmps61
    go_wp2_with (first | (go_at_call 84; refine (register_any _ _ _ _ _ _ _ _ _).mono ?_; rintro e w' ⟨rfl, rfl⟩) | (go_at_call 86; refine (slot_any _ _ _ _ _ _ _ _ _).mono ?_; rintro e w' ⟨rfl, rfl⟩) | (go_at_call 85; refine (octet_any _ _).mono ?_; rintro e w' ⟨rfl, rfl⟩))
    go_ret
    exact ⟨by simp [opGood, h1, h2], (by (repeat refine Below.al ?_ (Nat.le_refl _)); exact Below.refl _ _)⟩
  · go_enter Try.func61, Try.ntmps61
    go_wp2_with (first | (go_at_call 84; refine (register_any _ _ _ _ _ _ _ _ _).mono ?_; rintro e w' ⟨rfl, rfl⟩) | (go_at_call 86; refine (slot_any _ _ _ _ _ _ _ _ _).mono ?_; rintro e w' ⟨rfl, rfl⟩) | (go_at_call 85; refine (octet_any _ _).mono ?_; rintro e w' ⟨rfl, rfl⟩))
    go_ret
    exact ⟨by simp [opGood, h1, h2, int_beq_z], (by (repeat refine Below.al ?_ (Nat.le_refl _)); exact Below.refl _ _)⟩

set_option maxRecDepth 100000 in
set_option maxHeartbeats 2000000 in
theorem gOp2 (args regs data slots : Int) (bo : Option Addr) (bn bc : Nat) (a b c : Int) (w : World) :
    Calls Try.prog 61 #[.agg #[.int .i64 args, .int .i64 regs, .int .i64 data, .int .i64 slots, .slice bo bn bc], .agg #[.int .i64 2, .int .i64 a, .int .i64 b, .int .i64 c]] w fun e w' => e = .returned (.bool (opGood regs slots ⟨2, a, b, c⟩)) ∧ Below w.heap.size w w' := by
  cases h1 : below a regs
  · go_enter Try.func61, Try.ntmps61
    go_wp2_with (first | (go_at_call 84; refine (register_any _ _ _ _ _ _ _ _ _).mono ?_; rintro e w' ⟨rfl, rfl⟩) | (go_at_call 86; refine (slot_any _ _ _ _ _ _ _ _ _).mono ?_; rintro e w' ⟨rfl, rfl⟩) | (go_at_call 85; refine (octet_any _ _).mono ?_; rintro e w' ⟨rfl, rfl⟩))
    go_ret
    exact ⟨by simp [opGood, h1], (by (repeat refine Below.al ?_ (Nat.le_refl _)); exact Below.refl _ _)⟩
  cases h2 : below b regs
  · go_enter Try.func61, Try.ntmps61
    go_wp2_with (first | (go_at_call 84; refine (register_any _ _ _ _ _ _ _ _ _).mono ?_; rintro e w' ⟨rfl, rfl⟩) | (go_at_call 86; refine (slot_any _ _ _ _ _ _ _ _ _).mono ?_; rintro e w' ⟨rfl, rfl⟩) | (go_at_call 85; refine (octet_any _ _).mono ?_; rintro e w' ⟨rfl, rfl⟩))
    go_ret
    exact ⟨by simp [opGood, h1, h2], (by (repeat refine Below.al ?_ (Nat.le_refl _)); exact Below.refl _ _)⟩
  · go_enter Try.func61, Try.ntmps61
    go_wp2_with (first | (go_at_call 84; refine (register_any _ _ _ _ _ _ _ _ _).mono ?_; rintro e w' ⟨rfl, rfl⟩) | (go_at_call 86; refine (slot_any _ _ _ _ _ _ _ _ _).mono ?_; rintro e w' ⟨rfl, rfl⟩) | (go_at_call 85; refine (octet_any _ _).mono ?_; rintro e w' ⟨rfl, rfl⟩))
    go_ret
    exact ⟨by simp [opGood, h1, h2, int_beq_z], (by (repeat refine Below.al ?_ (Nat.le_refl _)); exact Below.refl _ _)⟩

set_option maxRecDepth 100000 in
set_option maxHeartbeats 2000000 in
theorem gOp3 (args regs data slots : Int) (bo : Option Addr) (bn bc : Nat) (a b c : Int) (w : World) :
    Calls Try.prog 61 #[.agg #[.int .i64 args, .int .i64 regs, .int .i64 data, .int .i64 slots, .slice bo bn bc], .agg #[.int .i64 3, .int .i64 a, .int .i64 b, .int .i64 c]] w fun e w' => e = .returned (.bool (opGood regs slots ⟨3, a, b, c⟩)) ∧ Below w.heap.size w w' := by
  cases h1 : below a regs
  · go_enter Try.func61, Try.ntmps61
    go_wp2_with (first | (go_at_call 84; refine (register_any _ _ _ _ _ _ _ _ _).mono ?_; rintro e w' ⟨rfl, rfl⟩) | (go_at_call 86; refine (slot_any _ _ _ _ _ _ _ _ _).mono ?_; rintro e w' ⟨rfl, rfl⟩) | (go_at_call 85; refine (octet_any _ _).mono ?_; rintro e w' ⟨rfl, rfl⟩))
    go_ret
    exact ⟨by simp [opGood, h1], (by (repeat refine Below.al ?_ (Nat.le_refl _)); exact Below.refl _ _)⟩
  cases h2 : below b regs
  · go_enter Try.func61, Try.ntmps61
    go_wp2_with (first | (go_at_call 84; refine (register_any _ _ _ _ _ _ _ _ _).mono ?_; rintro e w' ⟨rfl, rfl⟩) | (go_at_call 86; refine (slot_any _ _ _ _ _ _ _ _ _).mono ?_; rintro e w' ⟨rfl, rfl⟩) | (go_at_call 85; refine (octet_any _ _).mono ?_; rintro e w' ⟨rfl, rfl⟩))
    go_ret
    exact ⟨by simp [opGood, h1, h2], (by (repeat refine Below.al ?_ (Nat.le_refl _)); exact Below.refl _ _)⟩
  · go_enter Try.func61, Try.ntmps61
    go_wp2_with (first | (go_at_call 84; refine (register_any _ _ _ _ _ _ _ _ _).mono ?_; rintro e w' ⟨rfl, rfl⟩) | (go_at_call 86; refine (slot_any _ _ _ _ _ _ _ _ _).mono ?_; rintro e w' ⟨rfl, rfl⟩) | (go_at_call 85; refine (octet_any _ _).mono ?_; rintro e w' ⟨rfl, rfl⟩))
    go_ret
    exact ⟨by simp [opGood, h1, h2, int_beq_z], (by (repeat refine Below.al ?_ (Nat.le_refl _)); exact Below.refl _ _)⟩

set_option maxRecDepth 100000 in
set_option maxHeartbeats 2000000 in
theorem gOp4 (args regs data slots : Int) (bo : Option Addr) (bn bc : Nat) (a b c : Int) (w : World) :
    Calls Try.prog 61 #[.agg #[.int .i64 args, .int .i64 regs, .int .i64 data, .int .i64 slots, .slice bo bn bc], .agg #[.int .i64 4, .int .i64 a, .int .i64 b, .int .i64 c]] w fun e w' => e = .returned (.bool (opGood regs slots ⟨4, a, b, c⟩)) ∧ Below w.heap.size w w' := by
  cases h1 : below a regs
  · go_enter Try.func61, Try.ntmps61
    go_wp2_with (first | (go_at_call 84; refine (register_any _ _ _ _ _ _ _ _ _).mono ?_; rintro e w' ⟨rfl, rfl⟩) | (go_at_call 86; refine (slot_any _ _ _ _ _ _ _ _ _).mono ?_; rintro e w' ⟨rfl, rfl⟩) | (go_at_call 85; refine (octet_any _ _).mono ?_; rintro e w' ⟨rfl, rfl⟩))
    go_ret
    exact ⟨by simp [opGood, h1], (by (repeat refine Below.al ?_ (Nat.le_refl _)); exact Below.refl _ _)⟩
  cases h2 : below b regs
  · go_enter Try.func61, Try.ntmps61
    go_wp2_with (first | (go_at_call 84; refine (register_any _ _ _ _ _ _ _ _ _).mono ?_; rintro e w' ⟨rfl, rfl⟩) | (go_at_call 86; refine (slot_any _ _ _ _ _ _ _ _ _).mono ?_; rintro e w' ⟨rfl, rfl⟩) | (go_at_call 85; refine (octet_any _ _).mono ?_; rintro e w' ⟨rfl, rfl⟩))
    go_ret
    exact ⟨by simp [opGood, h1, h2], (by (repeat refine Below.al ?_ (Nat.le_refl _)); exact Below.refl _ _)⟩
  · go_enter Try.func61, Try.ntmps61
    go_wp2_with (first | (go_at_call 84; refine (register_any _ _ _ _ _ _ _ _ _).mono ?_; rintro e w' ⟨rfl, rfl⟩) | (go_at_call 86; refine (slot_any _ _ _ _ _ _ _ _ _).mono ?_; rintro e w' ⟨rfl, rfl⟩) | (go_at_call 85; refine (octet_any _ _).mono ?_; rintro e w' ⟨rfl, rfl⟩))
    go_ret
    exact ⟨by simp [opGood, h1, h2, int_beq_z], (by (repeat refine Below.al ?_ (Nat.le_refl _)); exact Below.refl _ _)⟩

set_option maxRecDepth 100000 in
set_option maxHeartbeats 2000000 in
theorem gOp5 (args regs data slots : Int) (bo : Option Addr) (bn bc : Nat) (a b c : Int) (w : World) :
    Calls Try.prog 61 #[.agg #[.int .i64 args, .int .i64 regs, .int .i64 data, .int .i64 slots, .slice bo bn bc], .agg #[.int .i64 5, .int .i64 a, .int .i64 b, .int .i64 c]] w fun e w' => e = .returned (.bool (opGood regs slots ⟨5, a, b, c⟩)) ∧ Below w.heap.size w w' := by
  cases h1 : below a regs
  · go_enter Try.func61, Try.ntmps61
    go_wp2_with (first | (go_at_call 84; refine (register_any _ _ _ _ _ _ _ _ _).mono ?_; rintro e w' ⟨rfl, rfl⟩) | (go_at_call 86; refine (slot_any _ _ _ _ _ _ _ _ _).mono ?_; rintro e w' ⟨rfl, rfl⟩) | (go_at_call 85; refine (octet_any _ _).mono ?_; rintro e w' ⟨rfl, rfl⟩))
    go_ret
    exact ⟨by simp [opGood, h1], (by (repeat refine Below.al ?_ (Nat.le_refl _)); exact Below.refl _ _)⟩
  cases h2 : below b regs
  · go_enter Try.func61, Try.ntmps61
    go_wp2_with (first | (go_at_call 84; refine (register_any _ _ _ _ _ _ _ _ _).mono ?_; rintro e w' ⟨rfl, rfl⟩) | (go_at_call 86; refine (slot_any _ _ _ _ _ _ _ _ _).mono ?_; rintro e w' ⟨rfl, rfl⟩) | (go_at_call 85; refine (octet_any _ _).mono ?_; rintro e w' ⟨rfl, rfl⟩))
    go_ret
    exact ⟨by simp [opGood, h1, h2], (by (repeat refine Below.al ?_ (Nat.le_refl _)); exact Below.refl _ _)⟩
  · go_enter Try.func61, Try.ntmps61
    go_wp2_with (first | (go_at_call 84; refine (register_any _ _ _ _ _ _ _ _ _).mono ?_; rintro e w' ⟨rfl, rfl⟩) | (go_at_call 86; refine (slot_any _ _ _ _ _ _ _ _ _).mono ?_; rintro e w' ⟨rfl, rfl⟩) | (go_at_call 85; refine (octet_any _ _).mono ?_; rintro e w' ⟨rfl, rfl⟩))
    go_ret
    exact ⟨by simp [opGood, h1, h2, int_beq_z], (by (repeat refine Below.al ?_ (Nat.le_refl _)); exact Below.refl _ _)⟩

set_option maxRecDepth 100000 in
set_option maxHeartbeats 2000000 in
theorem gOp6 (args regs data slots : Int) (bo : Option Addr) (bn bc : Nat) (a b c : Int) (w : World) :
    Calls Try.prog 61 #[.agg #[.int .i64 args, .int .i64 regs, .int .i64 data, .int .i64 slots, .slice bo bn bc], .agg #[.int .i64 6, .int .i64 a, .int .i64 b, .int .i64 c]] w fun e w' => e = .returned (.bool (opGood regs slots ⟨6, a, b, c⟩)) ∧ Below w.heap.size w w' := by
  cases h1 : below a regs
  · go_enter Try.func61, Try.ntmps61
    go_wp2_with (first | (go_at_call 84; refine (register_any _ _ _ _ _ _ _ _ _).mono ?_; rintro e w' ⟨rfl, rfl⟩) | (go_at_call 86; refine (slot_any _ _ _ _ _ _ _ _ _).mono ?_; rintro e w' ⟨rfl, rfl⟩) | (go_at_call 85; refine (octet_any _ _).mono ?_; rintro e w' ⟨rfl, rfl⟩))
    go_ret
    exact ⟨by simp [opGood, h1], (by (repeat refine Below.al ?_ (Nat.le_refl _)); exact Below.refl _ _)⟩
  cases h2 : below b regs
  · go_enter Try.func61, Try.ntmps61
    go_wp2_with (first | (go_at_call 84; refine (register_any _ _ _ _ _ _ _ _ _).mono ?_; rintro e w' ⟨rfl, rfl⟩) | (go_at_call 86; refine (slot_any _ _ _ _ _ _ _ _ _).mono ?_; rintro e w' ⟨rfl, rfl⟩) | (go_at_call 85; refine (octet_any _ _).mono ?_; rintro e w' ⟨rfl, rfl⟩))
    go_ret
    exact ⟨by simp [opGood, h1, h2], (by (repeat refine Below.al ?_ (Nat.le_refl _)); exact Below.refl _ _)⟩
  · go_enter Try.func61, Try.ntmps61
    go_wp2_with (first | (go_at_call 84; refine (register_any _ _ _ _ _ _ _ _ _).mono ?_; rintro e w' ⟨rfl, rfl⟩) | (go_at_call 86; refine (slot_any _ _ _ _ _ _ _ _ _).mono ?_; rintro e w' ⟨rfl, rfl⟩) | (go_at_call 85; refine (octet_any _ _).mono ?_; rintro e w' ⟨rfl, rfl⟩))
    go_ret
    exact ⟨by simp [opGood, h1, h2, int_beq_z], (by (repeat refine Below.al ?_ (Nat.le_refl _)); exact Below.refl _ _)⟩

set_option maxRecDepth 100000 in
set_option maxHeartbeats 2000000 in
theorem gOp7 (args regs data slots : Int) (bo : Option Addr) (bn bc : Nat) (a b c : Int) (w : World) :
    Calls Try.prog 61 #[.agg #[.int .i64 args, .int .i64 regs, .int .i64 data, .int .i64 slots, .slice bo bn bc], .agg #[.int .i64 7, .int .i64 a, .int .i64 b, .int .i64 c]] w fun e w' => e = .returned (.bool (opGood regs slots ⟨7, a, b, c⟩)) ∧ Below w.heap.size w w' := by
  cases h1 : below a regs
  · go_enter Try.func61, Try.ntmps61
    go_wp2_with (first | (go_at_call 84; refine (register_any _ _ _ _ _ _ _ _ _).mono ?_; rintro e w' ⟨rfl, rfl⟩) | (go_at_call 86; refine (slot_any _ _ _ _ _ _ _ _ _).mono ?_; rintro e w' ⟨rfl, rfl⟩) | (go_at_call 85; refine (octet_any _ _).mono ?_; rintro e w' ⟨rfl, rfl⟩))
    go_ret
    exact ⟨by simp [opGood, h1], (by (repeat refine Below.al ?_ (Nat.le_refl _)); exact Below.refl _ _)⟩
  cases h2 : below b regs
  · go_enter Try.func61, Try.ntmps61
    go_wp2_with (first | (go_at_call 84; refine (register_any _ _ _ _ _ _ _ _ _).mono ?_; rintro e w' ⟨rfl, rfl⟩) | (go_at_call 86; refine (slot_any _ _ _ _ _ _ _ _ _).mono ?_; rintro e w' ⟨rfl, rfl⟩) | (go_at_call 85; refine (octet_any _ _).mono ?_; rintro e w' ⟨rfl, rfl⟩))
    go_ret
    exact ⟨by simp [opGood, h1, h2], (by (repeat refine Below.al ?_ (Nat.le_refl _)); exact Below.refl _ _)⟩
  · go_enter Try.func61, Try.ntmps61
    go_wp2_with (first | (go_at_call 84; refine (register_any _ _ _ _ _ _ _ _ _).mono ?_; rintro e w' ⟨rfl, rfl⟩) | (go_at_call 86; refine (slot_any _ _ _ _ _ _ _ _ _).mono ?_; rintro e w' ⟨rfl, rfl⟩) | (go_at_call 85; refine (octet_any _ _).mono ?_; rintro e w' ⟨rfl, rfl⟩))
    go_ret
    exact ⟨by simp [opGood, h1, h2, int_beq_z], (by (repeat refine Below.al ?_ (Nat.le_refl _)); exact Below.refl _ _)⟩

set_option maxRecDepth 100000 in
set_option maxHeartbeats 2000000 in
theorem gOp8 (args regs data slots : Int) (bo : Option Addr) (bn bc : Nat) (a b c : Int) (w : World) :
    Calls Try.prog 61 #[.agg #[.int .i64 args, .int .i64 regs, .int .i64 data, .int .i64 slots, .slice bo bn bc], .agg #[.int .i64 8, .int .i64 a, .int .i64 b, .int .i64 c]] w fun e w' => e = .returned (.bool (opGood regs slots ⟨8, a, b, c⟩)) ∧ Below w.heap.size w w' := by
  cases h1 : below a regs
  · go_enter Try.func61, Try.ntmps61
    go_wp2_with (first | (go_at_call 84; refine (register_any _ _ _ _ _ _ _ _ _).mono ?_; rintro e w' ⟨rfl, rfl⟩) | (go_at_call 86; refine (slot_any _ _ _ _ _ _ _ _ _).mono ?_; rintro e w' ⟨rfl, rfl⟩) | (go_at_call 85; refine (octet_any _ _).mono ?_; rintro e w' ⟨rfl, rfl⟩))
    go_ret
    exact ⟨by simp [opGood, h1], (by (repeat refine Below.al ?_ (Nat.le_refl _)); exact Below.refl _ _)⟩
  cases h2 : below b regs
  · go_enter Try.func61, Try.ntmps61
    go_wp2_with (first | (go_at_call 84; refine (register_any _ _ _ _ _ _ _ _ _).mono ?_; rintro e w' ⟨rfl, rfl⟩) | (go_at_call 86; refine (slot_any _ _ _ _ _ _ _ _ _).mono ?_; rintro e w' ⟨rfl, rfl⟩) | (go_at_call 85; refine (octet_any _ _).mono ?_; rintro e w' ⟨rfl, rfl⟩))
    go_ret
    exact ⟨by simp [opGood, h1, h2], (by (repeat refine Below.al ?_ (Nat.le_refl _)); exact Below.refl _ _)⟩
  · go_enter Try.func61, Try.ntmps61
    go_wp2_with (first | (go_at_call 84; refine (register_any _ _ _ _ _ _ _ _ _).mono ?_; rintro e w' ⟨rfl, rfl⟩) | (go_at_call 86; refine (slot_any _ _ _ _ _ _ _ _ _).mono ?_; rintro e w' ⟨rfl, rfl⟩) | (go_at_call 85; refine (octet_any _ _).mono ?_; rintro e w' ⟨rfl, rfl⟩))
    go_ret
    exact ⟨by simp [opGood, h1, h2, int_beq_z], (by (repeat refine Below.al ?_ (Nat.le_refl _)); exact Below.refl _ _)⟩

end Go.Proofs.Ytblhmeidbjigaaa

/- Well made operations, in the document's answer. -/
set_option linter.unusedSimpArgs false
set_option linter.unusedVariables false
namespace Go.Proofs.Ytblhmeidbjigaaa
open Go.RowKit

set_option maxRecDepth 100000 in
set_option maxHeartbeats 2000000 in
theorem gOp9 (args regs data slots : Int) (bo : Option Addr) (bn bc : Nat) (a b c : Int) (w : World) :
    Calls Try.prog 61 #[.agg #[.int .i64 args, .int .i64 regs, .int .i64 data, .int .i64 slots, .slice bo bn bc], .agg #[.int .i64 9, .int .i64 a, .int .i64 b, .int .i64 c]] w fun e w' => e = .returned (.bool (opGood regs slots ⟨9, a, b, c⟩)) ∧ Below w.heap.size w w' := by
  cases h1 : below a regs
  · go_enter Try.func61, Try.ntmps61
    go_wp2_with (first | (go_at_call 84; refine (register_any _ _ _ _ _ _ _ _ _).mono ?_; rintro e w' ⟨rfl, rfl⟩) | (go_at_call 86; refine (slot_any _ _ _ _ _ _ _ _ _).mono ?_; rintro e w' ⟨rfl, rfl⟩) | (go_at_call 85; refine (octet_any _ _).mono ?_; rintro e w' ⟨rfl, rfl⟩))
    go_ret
    exact ⟨by simp [opGood, h1], (by (repeat refine Below.al ?_ (Nat.le_refl _)); exact Below.refl _ _)⟩
  cases h2 : below b regs
  · go_enter Try.func61, Try.ntmps61
    go_wp2_with (first | (go_at_call 84; refine (register_any _ _ _ _ _ _ _ _ _).mono ?_; rintro e w' ⟨rfl, rfl⟩) | (go_at_call 86; refine (slot_any _ _ _ _ _ _ _ _ _).mono ?_; rintro e w' ⟨rfl, rfl⟩) | (go_at_call 85; refine (octet_any _ _).mono ?_; rintro e w' ⟨rfl, rfl⟩))
    go_ret
    exact ⟨by simp [opGood, h1, h2], (by (repeat refine Below.al ?_ (Nat.le_refl _)); exact Below.refl _ _)⟩
  · go_enter Try.func61, Try.ntmps61
    go_wp2_with (first | (go_at_call 84; refine (register_any _ _ _ _ _ _ _ _ _).mono ?_; rintro e w' ⟨rfl, rfl⟩) | (go_at_call 86; refine (slot_any _ _ _ _ _ _ _ _ _).mono ?_; rintro e w' ⟨rfl, rfl⟩) | (go_at_call 85; refine (octet_any _ _).mono ?_; rintro e w' ⟨rfl, rfl⟩))
    go_ret
    exact ⟨by simp [opGood, h1, h2, int_beq_z], (by (repeat refine Below.al ?_ (Nat.le_refl _)); exact Below.refl _ _)⟩

set_option maxRecDepth 100000 in
set_option maxHeartbeats 2000000 in
theorem gOp10 (args regs data slots : Int) (bo : Option Addr) (bn bc : Nat) (a b c : Int) (w : World) :
    Calls Try.prog 61 #[.agg #[.int .i64 args, .int .i64 regs, .int .i64 data, .int .i64 slots, .slice bo bn bc], .agg #[.int .i64 10, .int .i64 a, .int .i64 b, .int .i64 c]] w fun e w' => e = .returned (.bool (opGood regs slots ⟨10, a, b, c⟩)) ∧ Below w.heap.size w w' := by
  cases h1 : below a regs
  · go_enter Try.func61, Try.ntmps61
    go_wp2_with (first | (go_at_call 84; refine (register_any _ _ _ _ _ _ _ _ _).mono ?_; rintro e w' ⟨rfl, rfl⟩) | (go_at_call 86; refine (slot_any _ _ _ _ _ _ _ _ _).mono ?_; rintro e w' ⟨rfl, rfl⟩) | (go_at_call 85; refine (octet_any _ _).mono ?_; rintro e w' ⟨rfl, rfl⟩))
    go_ret
    exact ⟨by simp [opGood, h1], (by (repeat refine Below.al ?_ (Nat.le_refl _)); exact Below.refl _ _)⟩
  cases h2 : below b regs
  · go_enter Try.func61, Try.ntmps61
    go_wp2_with (first | (go_at_call 84; refine (register_any _ _ _ _ _ _ _ _ _).mono ?_; rintro e w' ⟨rfl, rfl⟩) | (go_at_call 86; refine (slot_any _ _ _ _ _ _ _ _ _).mono ?_; rintro e w' ⟨rfl, rfl⟩) | (go_at_call 85; refine (octet_any _ _).mono ?_; rintro e w' ⟨rfl, rfl⟩))
    go_ret
    exact ⟨by simp [opGood, h1, h2], (by (repeat refine Below.al ?_ (Nat.le_refl _)); exact Below.refl _ _)⟩
  · go_enter Try.func61, Try.ntmps61
    go_wp2_with (first | (go_at_call 84; refine (register_any _ _ _ _ _ _ _ _ _).mono ?_; rintro e w' ⟨rfl, rfl⟩) | (go_at_call 86; refine (slot_any _ _ _ _ _ _ _ _ _).mono ?_; rintro e w' ⟨rfl, rfl⟩) | (go_at_call 85; refine (octet_any _ _).mono ?_; rintro e w' ⟨rfl, rfl⟩))
    go_ret
    exact ⟨by simp [opGood, h1, h2, int_beq_z], (by (repeat refine Below.al ?_ (Nat.le_refl _)); exact Below.refl _ _)⟩

set_option maxRecDepth 100000 in
set_option maxHeartbeats 2000000 in
theorem gOp11 (args regs data slots : Int) (bo : Option Addr) (bn bc : Nat) (a b c : Int) (w : World) :
    Calls Try.prog 61 #[.agg #[.int .i64 args, .int .i64 regs, .int .i64 data, .int .i64 slots, .slice bo bn bc], .agg #[.int .i64 11, .int .i64 a, .int .i64 b, .int .i64 c]] w fun e w' => e = .returned (.bool (opGood regs slots ⟨11, a, b, c⟩)) ∧ Below w.heap.size w w' := by
  cases h1 : below a regs
  · go_enter Try.func61, Try.ntmps61
    go_wp2_with (first | (go_at_call 84; refine (register_any _ _ _ _ _ _ _ _ _).mono ?_; rintro e w' ⟨rfl, rfl⟩) | (go_at_call 86; refine (slot_any _ _ _ _ _ _ _ _ _).mono ?_; rintro e w' ⟨rfl, rfl⟩) | (go_at_call 85; refine (octet_any _ _).mono ?_; rintro e w' ⟨rfl, rfl⟩))
    go_ret
    exact ⟨by simp [opGood, h1], (by (repeat refine Below.al ?_ (Nat.le_refl _)); exact Below.refl _ _)⟩
  cases h2 : below b regs
  · go_enter Try.func61, Try.ntmps61
    go_wp2_with (first | (go_at_call 84; refine (register_any _ _ _ _ _ _ _ _ _).mono ?_; rintro e w' ⟨rfl, rfl⟩) | (go_at_call 86; refine (slot_any _ _ _ _ _ _ _ _ _).mono ?_; rintro e w' ⟨rfl, rfl⟩) | (go_at_call 85; refine (octet_any _ _).mono ?_; rintro e w' ⟨rfl, rfl⟩))
    go_ret
    exact ⟨by simp [opGood, h1, h2], (by (repeat refine Below.al ?_ (Nat.le_refl _)); exact Below.refl _ _)⟩
  · go_enter Try.func61, Try.ntmps61
    go_wp2_with (first | (go_at_call 84; refine (register_any _ _ _ _ _ _ _ _ _).mono ?_; rintro e w' ⟨rfl, rfl⟩) | (go_at_call 86; refine (slot_any _ _ _ _ _ _ _ _ _).mono ?_; rintro e w' ⟨rfl, rfl⟩) | (go_at_call 85; refine (octet_any _ _).mono ?_; rintro e w' ⟨rfl, rfl⟩))
    go_ret
    exact ⟨by simp [opGood, h1, h2, int_beq_z], (by (repeat refine Below.al ?_ (Nat.le_refl _)); exact Below.refl _ _)⟩

set_option maxRecDepth 100000 in
set_option maxHeartbeats 2000000 in
theorem gOp12 (args regs data slots : Int) (bo : Option Addr) (bn bc : Nat) (a b c : Int) (w : World) :
    Calls Try.prog 61 #[.agg #[.int .i64 args, .int .i64 regs, .int .i64 data, .int .i64 slots, .slice bo bn bc], .agg #[.int .i64 12, .int .i64 a, .int .i64 b, .int .i64 c]] w fun e w' => e = .returned (.bool (opGood regs slots ⟨12, a, b, c⟩)) ∧ Below w.heap.size w w' := by
  cases h1 : below a regs
  · go_enter Try.func61, Try.ntmps61
    go_wp2_with (first | (go_at_call 84; refine (register_any _ _ _ _ _ _ _ _ _).mono ?_; rintro e w' ⟨rfl, rfl⟩) | (go_at_call 86; refine (slot_any _ _ _ _ _ _ _ _ _).mono ?_; rintro e w' ⟨rfl, rfl⟩) | (go_at_call 85; refine (octet_any _ _).mono ?_; rintro e w' ⟨rfl, rfl⟩))
    go_ret
    exact ⟨by simp [opGood, h1], (by (repeat refine Below.al ?_ (Nat.le_refl _)); exact Below.refl _ _)⟩
  cases h2 : below b regs
  · go_enter Try.func61, Try.ntmps61
    go_wp2_with (first | (go_at_call 84; refine (register_any _ _ _ _ _ _ _ _ _).mono ?_; rintro e w' ⟨rfl, rfl⟩) | (go_at_call 86; refine (slot_any _ _ _ _ _ _ _ _ _).mono ?_; rintro e w' ⟨rfl, rfl⟩) | (go_at_call 85; refine (octet_any _ _).mono ?_; rintro e w' ⟨rfl, rfl⟩))
    go_ret
    exact ⟨by simp [opGood, h1, h2], (by (repeat refine Below.al ?_ (Nat.le_refl _)); exact Below.refl _ _)⟩
  · go_enter Try.func61, Try.ntmps61
    go_wp2_with (first | (go_at_call 84; refine (register_any _ _ _ _ _ _ _ _ _).mono ?_; rintro e w' ⟨rfl, rfl⟩) | (go_at_call 86; refine (slot_any _ _ _ _ _ _ _ _ _).mono ?_; rintro e w' ⟨rfl, rfl⟩) | (go_at_call 85; refine (octet_any _ _).mono ?_; rintro e w' ⟨rfl, rfl⟩))
    go_ret
    exact ⟨by simp [opGood, h1, h2, int_beq_z], (by (repeat refine Below.al ?_ (Nat.le_refl _)); exact Below.refl _ _)⟩

set_option maxRecDepth 100000 in
set_option maxHeartbeats 2000000 in
theorem gOp13 (args regs data slots : Int) (bo : Option Addr) (bn bc : Nat) (a b c : Int) (w : World) :
    Calls Try.prog 61 #[.agg #[.int .i64 args, .int .i64 regs, .int .i64 data, .int .i64 slots, .slice bo bn bc], .agg #[.int .i64 13, .int .i64 a, .int .i64 b, .int .i64 c]] w fun e w' => e = .returned (.bool (opGood regs slots ⟨13, a, b, c⟩)) ∧ Below w.heap.size w w' := by
  cases h1 : below a regs
  · go_enter Try.func61, Try.ntmps61
    go_wp2_with (first | (go_at_call 84; refine (register_any _ _ _ _ _ _ _ _ _).mono ?_; rintro e w' ⟨rfl, rfl⟩) | (go_at_call 86; refine (slot_any _ _ _ _ _ _ _ _ _).mono ?_; rintro e w' ⟨rfl, rfl⟩) | (go_at_call 85; refine (octet_any _ _).mono ?_; rintro e w' ⟨rfl, rfl⟩))
    go_ret
    exact ⟨by simp [opGood, h1], (by (repeat refine Below.al ?_ (Nat.le_refl _)); exact Below.refl _ _)⟩
  cases h2 : below b regs
  · go_enter Try.func61, Try.ntmps61
    go_wp2_with (first | (go_at_call 84; refine (register_any _ _ _ _ _ _ _ _ _).mono ?_; rintro e w' ⟨rfl, rfl⟩) | (go_at_call 86; refine (slot_any _ _ _ _ _ _ _ _ _).mono ?_; rintro e w' ⟨rfl, rfl⟩) | (go_at_call 85; refine (octet_any _ _).mono ?_; rintro e w' ⟨rfl, rfl⟩))
    go_ret
    exact ⟨by simp [opGood, h1, h2], (by (repeat refine Below.al ?_ (Nat.le_refl _)); exact Below.refl _ _)⟩
  · go_enter Try.func61, Try.ntmps61
    go_wp2_with (first | (go_at_call 84; refine (register_any _ _ _ _ _ _ _ _ _).mono ?_; rintro e w' ⟨rfl, rfl⟩) | (go_at_call 86; refine (slot_any _ _ _ _ _ _ _ _ _).mono ?_; rintro e w' ⟨rfl, rfl⟩) | (go_at_call 85; refine (octet_any _ _).mono ?_; rintro e w' ⟨rfl, rfl⟩))
    go_ret
    exact ⟨by simp [opGood, h1, h2, int_beq_z], (by (repeat refine Below.al ?_ (Nat.le_refl _)); exact Below.refl _ _)⟩

set_option maxRecDepth 100000 in
set_option maxHeartbeats 2000000 in
theorem gOp14 (args regs data slots : Int) (bo : Option Addr) (bn bc : Nat) (a b c : Int) (w : World) :
    Calls Try.prog 61 #[.agg #[.int .i64 args, .int .i64 regs, .int .i64 data, .int .i64 slots, .slice bo bn bc], .agg #[.int .i64 14, .int .i64 a, .int .i64 b, .int .i64 c]] w fun e w' => e = .returned (.bool (opGood regs slots ⟨14, a, b, c⟩)) ∧ Below w.heap.size w w' := by
  cases h1 : below a slots
  · go_enter Try.func61, Try.ntmps61
    go_wp2_with (first | (go_at_call 84; refine (register_any _ _ _ _ _ _ _ _ _).mono ?_; rintro e w' ⟨rfl, rfl⟩) | (go_at_call 86; refine (slot_any _ _ _ _ _ _ _ _ _).mono ?_; rintro e w' ⟨rfl, rfl⟩) | (go_at_call 85; refine (octet_any _ _).mono ?_; rintro e w' ⟨rfl, rfl⟩))
    go_ret
    exact ⟨by simp [opGood, h1], (by (repeat refine Below.al ?_ (Nat.le_refl _)); exact Below.refl _ _)⟩
  cases h2 : below b regs
  · go_enter Try.func61, Try.ntmps61
    go_wp2_with (first | (go_at_call 84; refine (register_any _ _ _ _ _ _ _ _ _).mono ?_; rintro e w' ⟨rfl, rfl⟩) | (go_at_call 86; refine (slot_any _ _ _ _ _ _ _ _ _).mono ?_; rintro e w' ⟨rfl, rfl⟩) | (go_at_call 85; refine (octet_any _ _).mono ?_; rintro e w' ⟨rfl, rfl⟩))
    go_ret
    exact ⟨by simp [opGood, h1, h2], (by (repeat refine Below.al ?_ (Nat.le_refl _)); exact Below.refl _ _)⟩
  · go_enter Try.func61, Try.ntmps61
    go_wp2_with (first | (go_at_call 84; refine (register_any _ _ _ _ _ _ _ _ _).mono ?_; rintro e w' ⟨rfl, rfl⟩) | (go_at_call 86; refine (slot_any _ _ _ _ _ _ _ _ _).mono ?_; rintro e w' ⟨rfl, rfl⟩) | (go_at_call 85; refine (octet_any _ _).mono ?_; rintro e w' ⟨rfl, rfl⟩))
    go_ret
    exact ⟨by simp [opGood, h1, h2, int_beq_z], (by (repeat refine Below.al ?_ (Nat.le_refl _)); exact Below.refl _ _)⟩

set_option maxRecDepth 100000 in
set_option maxHeartbeats 2000000 in
theorem gOp15 (args regs data slots : Int) (bo : Option Addr) (bn bc : Nat) (a b c : Int) (w : World) :
    Calls Try.prog 61 #[.agg #[.int .i64 args, .int .i64 regs, .int .i64 data, .int .i64 slots, .slice bo bn bc], .agg #[.int .i64 15, .int .i64 a, .int .i64 b, .int .i64 c]] w fun e w' => e = .returned (.bool (opGood regs slots ⟨15, a, b, c⟩)) ∧ Below w.heap.size w w' := by
  cases h1 : below a regs
  · go_enter Try.func61, Try.ntmps61
    go_wp2_with (first | (go_at_call 84; refine (register_any _ _ _ _ _ _ _ _ _).mono ?_; rintro e w' ⟨rfl, rfl⟩) | (go_at_call 86; refine (slot_any _ _ _ _ _ _ _ _ _).mono ?_; rintro e w' ⟨rfl, rfl⟩) | (go_at_call 85; refine (octet_any _ _).mono ?_; rintro e w' ⟨rfl, rfl⟩))
    go_ret
    exact ⟨by simp [opGood, h1], (by (repeat refine Below.al ?_ (Nat.le_refl _)); exact Below.refl _ _)⟩
  cases h2 : below b slots
  · go_enter Try.func61, Try.ntmps61
    go_wp2_with (first | (go_at_call 84; refine (register_any _ _ _ _ _ _ _ _ _).mono ?_; rintro e w' ⟨rfl, rfl⟩) | (go_at_call 86; refine (slot_any _ _ _ _ _ _ _ _ _).mono ?_; rintro e w' ⟨rfl, rfl⟩) | (go_at_call 85; refine (octet_any _ _).mono ?_; rintro e w' ⟨rfl, rfl⟩))
    go_ret
    exact ⟨by simp [opGood, h1, h2], (by (repeat refine Below.al ?_ (Nat.le_refl _)); exact Below.refl _ _)⟩
  · go_enter Try.func61, Try.ntmps61
    go_wp2_with (first | (go_at_call 84; refine (register_any _ _ _ _ _ _ _ _ _).mono ?_; rintro e w' ⟨rfl, rfl⟩) | (go_at_call 86; refine (slot_any _ _ _ _ _ _ _ _ _).mono ?_; rintro e w' ⟨rfl, rfl⟩) | (go_at_call 85; refine (octet_any _ _).mono ?_; rintro e w' ⟨rfl, rfl⟩))
    go_ret
    exact ⟨by simp [opGood, h1, h2, int_beq_z], (by (repeat refine Below.al ?_ (Nat.le_refl _)); exact Below.refl _ _)⟩

set_option maxRecDepth 100000 in
set_option maxHeartbeats 2000000 in
theorem gOpNo (args regs data slots : Int) (bo : Option Addr) (bn bc : Nat) (k a b c : Int) (w : World) (hk : k < 1 ∨ 15 < k) :
    Calls Try.prog 61 #[.agg #[.int .i64 args, .int .i64 regs, .int .i64 data, .int .i64 slots, .slice bo bn bc], .agg #[.int .i64 k, .int .i64 a, .int .i64 b, .int .i64 c]] w fun e w' => e = .returned (.bool (opGood regs slots ⟨k, a, b, c⟩)) ∧ Below w.heap.size w w' := by
  have hg : opGood regs slots ⟨k, a, b, c⟩ = false := by
    unfold opGood
    rw [if_neg (by simp only []; omega), if_neg (by simp only []; omega), if_neg (by simp only []; omega), if_neg (by simp only []; omega), if_neg (by simp only []; omega)]
  have n1 : (k == 1) = false := by rw [beq_eq_false_iff_ne]; omega
  have n2 : (k == 2) = false := by rw [beq_eq_false_iff_ne]; omega
  have n12 : (k == 12) = false := by rw [beq_eq_false_iff_ne]; omega
  have n13 : (k == 13) = false := by rw [beq_eq_false_iff_ne]; omega
  have n14 : (k == 14) = false := by rw [beq_eq_false_iff_ne]; omega
  have n15 : (k == 15) = false := by rw [beq_eq_false_iff_ne]; omega
  rcases hk with hk | hk
  · have m1 : ¬ (3 ≤ k) := by omega
    go_enter Try.func61, Try.ntmps61
    go_wp2_with (first | (go_at_call 84; refine (register_any _ _ _ _ _ _ _ _ _).mono ?_; rintro e w' ⟨rfl, rfl⟩) | (go_at_call 86; refine (slot_any _ _ _ _ _ _ _ _ _).mono ?_; rintro e w' ⟨rfl, rfl⟩) | (go_at_call 85; refine (octet_any _ _).mono ?_; rintro e w' ⟨rfl, rfl⟩))
    go_ret
    exact ⟨by simp [hg], (by (repeat refine Below.al ?_ (Nat.le_refl _)); exact Below.refl _ _)⟩
  · have m1 : 3 ≤ k := by omega
    have m2 : ¬ (k ≤ 11) := by omega
    go_enter Try.func61, Try.ntmps61
    go_wp2_with (first | (go_at_call 84; refine (register_any _ _ _ _ _ _ _ _ _).mono ?_; rintro e w' ⟨rfl, rfl⟩) | (go_at_call 86; refine (slot_any _ _ _ _ _ _ _ _ _).mono ?_; rintro e w' ⟨rfl, rfl⟩) | (go_at_call 85; refine (octet_any _ _).mono ?_; rintro e w' ⟨rfl, rfl⟩))
    go_ret
    exact ⟨by simp [hg], (by (repeat refine Below.al ?_ (Nat.le_refl _)); exact Below.refl _ _)⟩

theorem gOp_any (args regs data slots : Int) (bo : Option Addr) (bn bc : Nat) (k a b c : Int) (w : World) :
    Calls Try.prog 61 #[.agg #[.int .i64 args, .int .i64 regs, .int .i64 data, .int .i64 slots, .slice bo bn bc], .agg #[.int .i64 k, .int .i64 a, .int .i64 b, .int .i64 c]] w fun e w' => e = .returned (.bool (opGood regs slots ⟨k, a, b, c⟩)) ∧ Below w.heap.size w w' := by
  by_cases hk : 1 ≤ k ∧ k ≤ 15
  · have : k = 1 ∨ k = 2 ∨ k = 3 ∨ k = 4 ∨ k = 5 ∨ k = 6 ∨ k = 7 ∨ k = 8 ∨ k = 9 ∨ k = 10 ∨ k = 11 ∨ k = 12 ∨ k = 13 ∨ k = 14 ∨ k = 15 := by omega
    rcases this with rfl | rfl | rfl | rfl | rfl | rfl | rfl | rfl | rfl | rfl | rfl | rfl | rfl | rfl | rfl
    · exact gOp1 args regs data slots bo bn bc a b c w
    · exact gOp2 args regs data slots bo bn bc a b c w
    · exact gOp3 args regs data slots bo bn bc a b c w
    · exact gOp4 args regs data slots bo bn bc a b c w
    · exact gOp5 args regs data slots bo bn bc a b c w
    · exact gOp6 args regs data slots bo bn bc a b c w
    · exact gOp7 args regs data slots bo bn bc a b c w
    · exact gOp8 args regs data slots bo bn bc a b c w
    · exact gOp9 args regs data slots bo bn bc a b c w
    · exact gOp10 args regs data slots bo bn bc a b c w
    · exact gOp11 args regs data slots bo bn bc a b c w
    · exact gOp12 args regs data slots bo bn bc a b c w
    · exact gOp13 args regs data slots bo bn bc a b c w
    · exact gOp14 args regs data slots bo bn bc a b c w
    · exact gOp15 args regs data slots bo bn bc a b c w
  · exact gOpNo args regs data slots bo bn bc k a b c w (by omega)

end Go.Proofs.Ytblhmeidbjigaaa

/- Well made ends, in the document's answer. -/
set_option linter.unusedSimpArgs false
set_option linter.unusedVariables false
namespace Go.Proofs.Ytblhmeidbjigaaa
open Go.RowKit

theorem below_nonneg {x n : Int} (h : 0 ≤ x) : below x n = decide (x < n) := by simp [below, h]

set_option maxRecDepth 100000 in
set_option maxHeartbeats 4000000 in
theorem gEnd1 (args regs data slots : Int) (bo : Option Addr) (bn bc : Nat) (r x y : Int) (w : World) :
    Calls Try.prog 60 #[.agg #[.int .i64 args, .int .i64 regs, .int .i64 data, .int .i64 slots, .slice bo bn bc], .agg #[.int .i64 1, .int .i64 r, .int .i64 x, .int .i64 y]] w fun e w' => e = .returned (.bool (endGood regs bn ⟨1, r, x, y⟩)) ∧ Below w.heap.size w w' := by
  have tx : (x < 0 ∧ below x bn = false) ∨ (0 ≤ x ∧ x < bn ∧ below x bn = true) ∨ (0 ≤ x ∧ ¬ x < bn ∧ below x bn = false) := by
    by_cases h1 : x < 0
    · exact .inl ⟨h1, below_lo h1⟩
    · by_cases h2 : x < bn
      · exact .inr (.inl ⟨by omega, h2, below_true (by omega) h2⟩)
      · exact .inr (.inr ⟨by omega, h2, below_hi (by omega)⟩)
  have ty : (y < 0 ∧ below y bn = false) ∨ (0 ≤ y ∧ below y bn = decide (y < bn)) := by
    by_cases h1 : y < 0
    · exact .inl ⟨h1, below_lo h1⟩
    · exact .inr ⟨by omega, below_nonneg (by omega)⟩
  by_cases hr : r = 0
  case neg =>
    have hr1 : (r == 0) = false := by simp [hr]
    rcases tx with ⟨x1, x2⟩ | ⟨x1, x3, x2⟩ | ⟨x1, x3, x2⟩ <;> rcases ty with ⟨y1, y2⟩ | ⟨y1, y2⟩
    all_goals
      go_enter Try.func60, Try.ntmps60
      go_wp2_with (go_at_call 84; refine (register_any _ _ _ _ _ _ _ _ _).mono ?_; rintro e w' ⟨rfl, rfl⟩)
      go_ret
      exact ⟨by simp [endGood, hr], (by (repeat refine Below.al ?_ (Nat.le_refl _)); exact Below.refl _ _)⟩
  subst hr
  rcases tx with ⟨x1, x2⟩ | ⟨x1, x3, x2⟩ | ⟨x1, x3, x2⟩ <;> rcases ty with ⟨y1, y2⟩ | ⟨y1, y2⟩
  all_goals
    go_enter Try.func60, Try.ntmps60
    go_wp2_with (go_at_call 84; refine (register_any _ _ _ _ _ _ _ _ _).mono ?_; rintro e w' ⟨rfl, rfl⟩)
    go_ret
    exact ⟨by simp [endGood, x2, int_beq_z], (by (repeat refine Below.al ?_ (Nat.le_refl _)); exact Below.refl _ _)⟩

set_option maxRecDepth 100000 in
set_option maxHeartbeats 4000000 in
theorem gEnd2 (args regs data slots : Int) (bo : Option Addr) (bn bc : Nat) (r x y : Int) (w : World) :
    Calls Try.prog 60 #[.agg #[.int .i64 args, .int .i64 regs, .int .i64 data, .int .i64 slots, .slice bo bn bc], .agg #[.int .i64 2, .int .i64 r, .int .i64 x, .int .i64 y]] w fun e w' => e = .returned (.bool (endGood regs bn ⟨2, r, x, y⟩)) ∧ Below w.heap.size w w' := by
  have tx : (x < 0 ∧ below x bn = false) ∨ (0 ≤ x ∧ x < bn ∧ below x bn = true) ∨ (0 ≤ x ∧ ¬ x < bn ∧ below x bn = false) := by
    by_cases h1 : x < 0
    · exact .inl ⟨h1, below_lo h1⟩
    · by_cases h2 : x < bn
      · exact .inr (.inl ⟨by omega, h2, below_true (by omega) h2⟩)
      · exact .inr (.inr ⟨by omega, h2, below_hi (by omega)⟩)
  have ty : (y < 0 ∧ below y bn = false) ∨ (0 ≤ y ∧ below y bn = decide (y < bn)) := by
    by_cases h1 : y < 0
    · exact .inl ⟨h1, below_lo h1⟩
    · exact .inr ⟨by omega, below_nonneg (by omega)⟩
  cases hr : below r regs <;> rcases tx with ⟨x1, x2⟩ | ⟨x1, x3, x2⟩ | ⟨x1, x3, x2⟩ <;> rcases ty with ⟨y1, y2⟩ | ⟨y1, y2⟩
  all_goals
    go_enter Try.func60, Try.ntmps60
    go_wp2_with (go_at_call 84; refine (register_any _ _ _ _ _ _ _ _ _).mono ?_; rintro e w' ⟨rfl, rfl⟩)
    go_ret
    exact ⟨by simp [endGood, hr, x2, y2], (by (repeat refine Below.al ?_ (Nat.le_refl _)); exact Below.refl _ _)⟩

set_option maxRecDepth 100000 in
set_option maxHeartbeats 4000000 in
theorem gEnd3 (args regs data slots : Int) (bo : Option Addr) (bn bc : Nat) (r x y : Int) (w : World) :
    Calls Try.prog 60 #[.agg #[.int .i64 args, .int .i64 regs, .int .i64 data, .int .i64 slots, .slice bo bn bc], .agg #[.int .i64 3, .int .i64 r, .int .i64 x, .int .i64 y]] w fun e w' => e = .returned (.bool (endGood regs bn ⟨3, r, x, y⟩)) ∧ Below w.heap.size w w' := by
  have tx : (x < 0 ∧ below x bn = false) ∨ (0 ≤ x ∧ x < bn ∧ below x bn = true) ∨ (0 ≤ x ∧ ¬ x < bn ∧ below x bn = false) := by
    by_cases h1 : x < 0
    · exact .inl ⟨h1, below_lo h1⟩
    · by_cases h2 : x < bn
      · exact .inr (.inl ⟨by omega, h2, below_true (by omega) h2⟩)
      · exact .inr (.inr ⟨by omega, h2, below_hi (by omega)⟩)
  have ty : (y < 0 ∧ below y bn = false) ∨ (0 ≤ y ∧ below y bn = decide (y < bn)) := by
    by_cases h1 : y < 0
    · exact .inl ⟨h1, below_lo h1⟩
    · exact .inr ⟨by omega, below_nonneg (by omega)⟩
  by_cases hx : x = 0
  · have hx1 : (x == 0) = true := by simp [hx]
    cases hr : below r regs <;> rcases tx with ⟨x1, x2⟩ | ⟨x1, x3, x2⟩ | ⟨x1, x3, x2⟩ <;> rcases ty with ⟨y1, y2⟩ | ⟨y1, y2⟩
    all_goals
      clear hx
      go_enter Try.func60, Try.ntmps60
      go_wp2_with (go_at_call 84; refine (register_any _ _ _ _ _ _ _ _ _).mono ?_; rintro e w' ⟨rfl, rfl⟩)
      go_ret
      exact ⟨by have hx : x = 0 := by simpa using hx1
                simp [endGood, hr, hx, int_beq_z], (by (repeat refine Below.al ?_ (Nat.le_refl _)); exact Below.refl _ _)⟩
  · have hx1 : (x == 0) = false := by simp [hx]
    cases hr : below r regs <;> rcases tx with ⟨x1, x2⟩ | ⟨x1, x3, x2⟩ | ⟨x1, x3, x2⟩ <;> rcases ty with ⟨y1, y2⟩ | ⟨y1, y2⟩
    all_goals
      go_enter Try.func60, Try.ntmps60
      go_wp2_with (go_at_call 84; refine (register_any _ _ _ _ _ _ _ _ _).mono ?_; rintro e w' ⟨rfl, rfl⟩)
      go_ret
      exact ⟨by simp [endGood, hr, hx], (by (repeat refine Below.al ?_ (Nat.le_refl _)); exact Below.refl _ _)⟩

set_option maxRecDepth 100000 in
set_option maxHeartbeats 4000000 in
theorem gEndNo (args regs data slots : Int) (bo : Option Addr) (bn bc : Nat) (k r x y : Int) (w : World) (hk : ¬ (1 ≤ k ∧ k ≤ 3)) :
    Calls Try.prog 60 #[.agg #[.int .i64 args, .int .i64 regs, .int .i64 data, .int .i64 slots, .slice bo bn bc], .agg #[.int .i64 k, .int .i64 r, .int .i64 x, .int .i64 y]] w fun e w' => e = .returned (.bool (endGood regs bn ⟨k, r, x, y⟩)) ∧ Below w.heap.size w w' := by
  have hg : endGood regs bn ⟨k, r, x, y⟩ = false := by
    unfold endGood
    rw [if_neg (by simp only []; omega), if_neg (by simp only []; omega), if_neg (by simp only []; omega)]
  have n1 : (k == 1) = false := by rw [beq_eq_false_iff_ne]; omega
  have n2 : (k == 2) = false := by rw [beq_eq_false_iff_ne]; omega
  have n3 : (k == 3) = false := by rw [beq_eq_false_iff_ne]; omega
  by_cases x1 : 0 ≤ x <;> by_cases y1 : 0 ≤ y
  all_goals
    go_enter Try.func60, Try.ntmps60
    go_wp2_with (go_at_call 84; refine (register_any _ _ _ _ _ _ _ _ _).mono ?_; rintro e w' ⟨rfl, rfl⟩)
    go_ret
    exact ⟨by simp [hg], (by (repeat refine Below.al ?_ (Nat.le_refl _)); exact Below.refl _ _)⟩

theorem gEnd_any (args regs data slots : Int) (bo : Option Addr) (bn bc : Nat) (k r x y : Int) (w : World) :
    Calls Try.prog 60 #[.agg #[.int .i64 args, .int .i64 regs, .int .i64 data, .int .i64 slots, .slice bo bn bc], .agg #[.int .i64 k, .int .i64 r, .int .i64 x, .int .i64 y]] w fun e w' => e = .returned (.bool (endGood regs bn ⟨k, r, x, y⟩)) ∧ Below w.heap.size w w' := by
  by_cases hk : 1 ≤ k ∧ k ≤ 3
  · have : k = 1 ∨ k = 2 ∨ k = 3 := by omega
    rcases this with rfl | rfl | rfl
    · exact gEnd1 args regs data slots bo bn bc r x y w
    · exact gEnd2 args regs data slots bo bn bc r x y w
    · exact gEnd3 args regs data slots bo bn bc r x y w
  · exact gEndNo args regs data slots bo bn bc k r x y w hk

end Go.Proofs.Ytblhmeidbjigaaa
