/- Storing into a hint of one's own. -/
import Derived.Test.YtblhmeidbjigaaaGreatDoorRows
import Derived.WalkKit
import Derived.WalkSpells
import Derived.WalkLawsBesides
import Derived.Laws.BytesArg
import Derived.Deep.QuietTactic
import Derived.BigQuiet
import Derived.Deep.RegionHeld3
import Derived.Lib.ItoaNum
import Derived.Lib.ItoaLen
import Derived.OpenShut
import Derived.Maps.AppendAt
import Derived.Shelf.Strconv.Itoa3
import Derived.Shelf.Lay
import Derived.Ground.NamesProg
import Derived.Lib.SmallJoins
import Derived.Test.YtblhmeidbjigaaaGreatDoorOwnToAppVerdicts

set_option linter.unusedSimpArgs false
set_option linter.unusedVariables false
namespace Go.Proofs.YtblhmeidbjigaaaGreatDoor
open Go.RowKit

/-- What lay there has not turned, but for the blocks of S. -/
structure Keep (S : Nat → Prop) (w w' : World) : Prop where
  os : w'.os = w.os
  tape : w'.tape = w.tape
  output : w'.output = w.output
  size : w.heap.size ≤ w'.heap.size
  block : ∀ k, k < w.heap.size → ¬ S k → w'.heap[k]? = w.heap[k]?

theorem Keep.refl (S : Nat → Prop) (w : World) : Keep S w w := ⟨rfl, rfl, rfl, Nat.le_refl _, fun _ _ _ => rfl⟩

theorem Keep.step {S : Nat → Prop} {w a b : World} (h : Keep S w a) (hos : b.os = a.os) (ht : b.tape = a.tape) (ho : b.output = a.output) (hs : a.heap.size ≤ b.heap.size) (hb : ∀ k, k < w.heap.size → ¬ S k → b.heap[k]? = a.heap[k]?) : Keep S w b :=
  ⟨hos.trans h.os, ht.trans h.tape, ho.trans h.output, Nat.le_trans h.size hs, fun k hk hn => (hb k hk hn).trans (h.block k hk hn)⟩

theorem Keep.alloc {S : Nat → Prop} {w a : World} (h : Keep S w a) (o : Obj) : Keep S w (a.alloc o) :=
  h.step rfl rfl rfl (by simp) fun k hk _ => Below.heap_alloc _ _ _ (Nat.lt_of_lt_of_le hk h.size)

theorem Keep.setCell {S : Nat → Prop} {w a : World} (h : Keep S w a) {p : Addr} (hp : S p.block ∨ w.heap.size ≤ p.block) (u : Value) : Keep S w (a.setCell p u) :=
  h.step rfl rfl rfl (by simp) fun k hk hn => Below.heap_setCell _ _ _ _ (fun e => by subst e; rcases hp with hp | hp; exact hn hp; omega)

theorem Keep.grown {S : Nat → Prop} {w a b : World} {row : Option Nat} (h : Keep S w a) (hg : a.grownBy b row) (hr : ∀ g, row = some g → S g ∨ w.heap.size ≤ g) : Keep S w b :=
  h.step hg.os hg.tape hg.output hg.size fun k hk hn => hg.block k (Nat.lt_of_lt_of_le hk h.size) (fun e => by rcases hr k e.symm with hp | hp; exact hn hp; omega)

theorem Keep.below {S : Nat → Prop} {w a b : World} (h : Keep S w a) {B : Nat} (hb : Below B a b) (hB : w.heap.size ≤ B) : Keep S w b :=
  h.step hb.os hb.tape hb.output hb.size fun k hk _ => hb.block k (by omega)

theorem Keep.toBelow {S : Nat → Prop} {w a : World} (h : Keep S w a) {B : Nat} (hB : B ≤ w.heap.size) (hS : ∀ k, S k → B ≤ k) : Below B w a :=
  ⟨h.os, h.tape, h.output, h.size, fun k hk => h.block k (by omega) (fun hk' => by have := hS k hk'; omega)⟩

theorem Keep.cell {S : Nat → Prop} {w a : World} (h : Keep S w a) {b o : Nat} (hb : ¬ S b) {u : Value} (hc : w.cell? ⟨b, o, none⟩ = some u) : a.cell? ⟨b, o, none⟩ = some u :=
  (World.cell?_of_block (w := w) (h.block b (World.block_lt_of_cell? w _ hc) hb)).trans hc

theorem owns_unset {w : World} {B : Nat} {e : TypeId} {sz : Nat} {v : Value} {n : Nat} {xs : List Value} (h : w.ownsRow B e sz v n xs) {g i : Nat} (hg : v.ownBlock ≠ some g) (u : Value) :
    (w.setCell ⟨g, i, none⟩ u).ownsRow B e sz v n xs :=
  owns_same h fun k hk => Below.heap_setCell _ _ _ _ (fun e => hg (by rw [hk, e]))

end Go.Proofs.YtblhmeidbjigaaaGreatDoor

/- Rows of memory as lists: made, copied into, written. -/
set_option linter.unusedSimpArgs false
set_option linter.unusedVariables false
namespace Go.Proofs.YtblhmeidbjigaaaGreatDoor
open Go.RowKit

/-- Block g is a row of cells xs of type e, none frozen. -/
def Row (w : World) (g : Nat) (e : TypeId) (xs : List Value) : Prop := w.heap[g]? = some (.cells xs.toArray e (0, 0))

theorem Row.cell {w : World} {g : Nat} {e : TypeId} {xs : List Value} (h : Row w g e xs) {i : Nat} {u : Value} (hi : xs[i]? = some u) : w.cell? ⟨g, i, none⟩ = some u := by
  unfold Row at h
  simp [World.cell?, h, hi]

theorem Row.frozen {w : World} {g : Nat} {e : TypeId} {xs : List Value} (h : Row w g e xs) (i : Nat) : w.frozen? ⟨g, i, none⟩ = false := by
  unfold Row at h
  simp [World.frozen?, h]

theorem Row.lt {w : World} {g : Nat} {e : TypeId} {xs : List Value} (h : Row w g e xs) : g < w.heap.size := (Array.getElem?_eq_some_iff.1 h).1

theorem Row.same {w w' : World} {g : Nat} {e : TypeId} {xs : List Value} (h : Row w g e xs) (hs : w'.heap[g]? = w.heap[g]?) : Row w' g e xs := hs.trans h

theorem Row.below {w w' : World} {g B : Nat} {e : TypeId} {xs : List Value} (h : Row w g e xs) (hb : Below B w w') (hg : g < B) : Row w' g e xs := h.same (hb.block g hg)

theorem Row.keep {w w' : World} {g : Nat} {e : TypeId} {xs : List Value} (h : Row w g e xs) (hb : Below w.heap.size w w') : Row w' g e xs := h.below hb h.lt

theorem Row.alloc {w : World} {g : Nat} {e : TypeId} {xs : List Value} (h : Row w g e xs) (o : Obj) : Row (w.alloc o) g e xs := h.same (Below.heap_alloc w o g h.lt)

theorem Row.set {w : World} {g : Nat} {e : TypeId} {xs : List Value} (h : Row w g e xs) (i : Nat) (u : Value) : Row (w.setCell ⟨g, i, none⟩ u) g e (xs.set i u) := by
  have := heap_setCell_same w g i xs.toArray e u h
  unfold Row
  rw [this]
  simp

theorem Row.unset {w : World} {g : Nat} {e : TypeId} {xs : List Value} (h : Row w g e xs) {a : Addr} (ha : g ≠ a.block) (u : Value) : Row (w.setCell a u) g e xs := h.same (Below.heap_setCell _ _ _ _ ha)

section
variable {P : Program} (w : World)

end

end Go.Proofs.YtblhmeidbjigaaaGreatDoor

/- Programs as plain data; how they lie in memory. -/
set_option linter.unusedSimpArgs false
set_option linter.unusedVariables false
namespace Go.Proofs.YtblhmeidbjigaaaGreatDoor
open Go.RowKit

structure OpD where
  kind : Int
  a : Int
  b : Int
  c : Int

structure EndD where
  kind : Int
  r : Int
  x : Int
  y : Int

structure BlockD where
  ops : List OpD
  fin : EndD

structure ProgD where
  args : Int
  regs : Int
  data : Int
  slots : Int
  blocks : List BlockD

def oz : OpD := ⟨0, 0, 0, 0⟩
def ez : EndD := ⟨0, 0, 0, 0⟩
def bz : BlockD := ⟨[], ez⟩

def okind (l : List OpD) (k : Nat) : Int := (l.getD k oz).kind
def oa (l : List OpD) (k : Nat) : Int := (l.getD k oz).a
def ob (l : List OpD) (k : Nat) : Int := (l.getD k oz).b
def oc (l : List OpD) (k : Nat) : Int := (l.getD k oz).c
def bops (l : List BlockD) (k : Nat) : List OpD := (l.getD k bz).ops
def bfin (l : List BlockD) (k : Nat) : EndD := (l.getD k bz).fin
def bek (l : List BlockD) (k : Nat) : Int := (bfin l k).kind
def ber (l : List BlockD) (k : Nat) : Int := (bfin l k).r
def bex (l : List BlockD) (k : Nat) : Int := (bfin l k).x
def bey (l : List BlockD) (k : Nat) : Int := (bfin l k).y

/-! ### Well made -/

def opGood (regs slots : Int) (o : OpD) : Bool :=
  if o.kind = 1 then below o.a regs && below o.b 256 && below o.c 256
  else if 3 ≤ o.kind ∧ o.kind ≤ 11 then below o.a regs && below o.b regs && below o.c regs
  else if o.kind = 2 ∨ o.kind = 12 ∨ o.kind = 13 then below o.a regs && below o.b regs && decide (o.c = 0)
  else if o.kind = 14 then below o.a slots && below o.b regs && decide (o.c = 0)
  else if o.kind = 15 then below o.a regs && below o.b slots && decide (o.c = 0)
  else false

def endGood (regs n : Int) (e : EndD) : Bool :=
  if e.kind = 1 then decide (e.r = 0) && below e.x n && decide (e.y = 0)
  else if e.kind = 2 then below e.r regs && below e.x n && below e.y n
  else if e.kind = 3 then below e.r regs && decide (e.x = 0) && decide (e.y = 0)
  else false

def opsGood (regs slots : Int) (l : List OpD) : Bool := l.all (opGood regs slots)

def blockGood (regs slots n : Int) (b : BlockD) : Bool := decide (b.ops.length ≤ 12) && opsGood regs slots b.ops && endGood regs n b.fin

def blocksGood (regs slots n : Int) (l : List BlockD) : Bool := l.all (blockGood regs slots n)

def progGood (p : ProgD) : Bool :=
  decide (1 ≤ p.regs ∧ p.regs ≤ 8) && decide (0 ≤ p.args ∧ p.args ≤ p.regs) && decide (0 ≤ p.data ∧ p.data ≤ 8) && decide (0 ≤ p.slots ∧ p.slots ≤ 8) && decide (1 ≤ p.blocks.length ∧ p.blocks.length ≤ 6) &&
    blocksGood p.regs p.slots p.blocks.length p.blocks

def ogFrom (regs slots : Int) (l : List OpD) (k : Nat) : Bool := opsGood regs slots (l.drop k)
def bgFrom (regs slots n : Int) (l : List BlockD) (k : Nat) : Bool := blocksGood regs slots n (l.drop k)

theorem ogFrom_end {regs slots : Int} {l : List OpD} {k : Nat} (h : l.length ≤ k) : ogFrom regs slots l k = true := by
  unfold ogFrom; rw [List.drop_of_length_le h]; rfl
theorem ogFrom_step {regs slots : Int} {l : List OpD} {k : Nat} (h : k < l.length) : ogFrom regs slots l k = (opGood regs slots ⟨okind l k, oa l k, ob l k, oc l k⟩ && ogFrom regs slots l (k + 1)) := by
  unfold ogFrom; rw [drop_getD l oz k h]; rfl
theorem bgFrom_end {regs slots n : Int} {l : List BlockD} {k : Nat} (h : l.length ≤ k) : bgFrom regs slots n l k = true := by
  unfold bgFrom; rw [List.drop_of_length_le h]; rfl
theorem bgFrom_step {regs slots n : Int} {l : List BlockD} {k : Nat} (h : k < l.length) : bgFrom regs slots n l k = (blockGood regs slots n ⟨bops l k, ⟨bek l k, ber l k, bex l k, bey l k⟩⟩ && bgFrom regs slots n l (k + 1)) := by
  unfold bgFrom; rw [drop_getD l bz k h]; rfl

/-! ### In memory -/

def RdOps (w : World) (v : Value) (l : List OpD) : Prop :=
  ∃ ao cap, v = .slice ao l.length cap ∧ l.length ≤ 9223372036854775807 ∧ ∀ i, i < l.length → ∃ b off, ao = some ⟨b, off, none⟩ ∧
    w.cell? ⟨b, off + i * 4, none⟩ = some (.int .i64 (okind l i)) ∧ w.cell? ⟨b, off + i * 4 + 1, none⟩ = some (.int .i64 (oa l i)) ∧ w.cell? ⟨b, off + i * 4 + 2, none⟩ = some (.int .i64 (ob l i)) ∧ w.cell? ⟨b, off + i * 4 + 3, none⟩ = some (.int .i64 (oc l i))

def RdBlocks (w : World) (v : Value) (l : List BlockD) : Prop :=
  ∃ ao cap, v = .slice ao l.length cap ∧ l.length ≤ 9223372036854775807 ∧ ∀ i, i < l.length → ∃ b off sv, ao = some ⟨b, off, none⟩ ∧
    w.cell? ⟨b, off + i * 5, none⟩ = some sv ∧ w.cell? ⟨b, off + i * 5 + 1, none⟩ = some (.int .i64 (bek l i)) ∧ w.cell? ⟨b, off + i * 5 + 2, none⟩ = some (.int .i64 (ber l i)) ∧ w.cell? ⟨b, off + i * 5 + 3, none⟩ = some (.int .i64 (bex l i)) ∧ w.cell? ⟨b, off + i * 5 + 4, none⟩ = some (.int .i64 (bey l i)) ∧
    RdOps w sv (bops l i)

theorem RdOps.keep {w w' : World} {v : Value} {l : List OpD} (h : RdOps w v l) (hb : Below w.heap.size w w') : RdOps w' v l := by
  obtain ⟨ao, cap, rfl, hl, hc⟩ := h
  exact ⟨ao, cap, rfl, hl, fun i hi => let ⟨b, off, e, h1, h2, h3, h4⟩ := hc i hi; ⟨b, off, e, cell_keep hb h1, cell_keep hb h2, cell_keep hb h3, cell_keep hb h4⟩⟩

theorem RdBlocks.keep {w w' : World} {v : Value} {l : List BlockD} (h : RdBlocks w v l) (hb : Below w.heap.size w w') : RdBlocks w' v l := by
  obtain ⟨ao, cap, rfl, hl, hc⟩ := h
  exact ⟨ao, cap, rfl, hl, fun i hi => let ⟨b, off, sv, e, h1, h2, h3, h4, h5, h6⟩ := hc i hi; ⟨b, off, sv, e, cell_keep hb h1, cell_keep hb h2, cell_keep hb h3, cell_keep hb h4, cell_keep hb h5, h6.keep hb⟩⟩

/-- A program as a value. -/
def progV (p : ProgD) (v : Value) : Value := .agg #[.int .i64 p.args, .int .i64 p.regs, .int .i64 p.data, .int .i64 p.slots, v]

/-! ### Texts -/

def opText (o : OpD) : List UInt8 := [byt o.kind, byt o.a, byt o.b, byt o.c]
def opsText (l : List OpD) : List UInt8 := l.flatMap opText
def endText (e : EndD) : List UInt8 := [byt e.kind, byt e.r, byt e.x, byt e.y]
def blockText (b : BlockD) : List UInt8 := [byt b.ops.length] ++ opsText b.ops ++ endText b.fin
def headText (p : ProgD) : List UInt8 := [84, 87, byt p.args, byt p.regs, byt p.data, byt p.slots, byt p.blocks.length]
def progText (p : ProgD) : List UInt8 := headText p ++ p.blocks.flatMap blockText

theorem opsText_length (l : List OpD) : (opsText l).length = 4 * l.length := by
  induction l with
  | nil => rfl
  | cons p r ih => simp only [opsText, List.flatMap_cons, List.length_append, List.length_cons, opText, List.length_nil] at *; omega

theorem blockText_length (b : BlockD) : (blockText b).length = 5 + 4 * b.ops.length := by
  simp [blockText, opsText_length, endText]; omega

/-- A block's text as far as its first k operations. -/
def blockTo (l : List OpD) (k : Nat) : ByteArray := str ([byt l.length] ++ opsText (l.take k))

theorem blockTo_step {l : List OpD} {k : Nat} (h : k < l.length) : blockTo l (k + 1) = blockTo l k ++ ⟨#[byt (okind l k), byt (oa l k), byt (ob l k), byt (oc l k)]⟩ := by
  show _ = str _ ++ str [_, _, _, _]
  rw [str_append]
  simp [blockTo, opsText, take_getD l oz k h, okind, oa, ob, oc, opText]

theorem blockTo_end {l : List OpD} {k : Nat} (e : EndD) (h : l.length ≤ k) : blockTo l k ++ ⟨#[byt e.kind, byt e.r, byt e.x, byt e.y]⟩ = str (blockText ⟨l, e⟩) := by
  show str _ ++ str [_, _, _, _] = _
  rw [str_append]
  simp [blockText, endText, List.take_of_length_le h]

theorem blockTo_size (l : List OpD) (k : Nat) (h : k ≤ l.length) : (blockTo l k).size = 1 + 4 * k := by
  simp [blockTo, str, ByteArray.size, opsText_length, List.length_take, Nat.min_eq_left h]
  omega

/-- A program's text as far as its first k blocks. -/
def progTo (p : ProgD) (k : Nat) : ByteArray := str (headText p ++ (p.blocks.take k).flatMap blockText)

theorem progTo_step {p : ProgD} {k : Nat} (h : k < p.blocks.length) : progTo p (k + 1) = progTo p k ++ str (blockText ⟨bops p.blocks k, ⟨bek p.blocks k, ber p.blocks k, bex p.blocks k, bey p.blocks k⟩⟩) := by
  unfold progTo
  rw [str_append, take_getD p.blocks bz k h, List.flatMap_append, List.append_assoc]
  simp [bops, bek, ber, bex, bey, bfin]

theorem progTo_end {p : ProgD} {k : Nat} (h : p.blocks.length ≤ k) : progTo p k = str (progText p) := by
  simp [progTo, progText, List.take_of_length_le h]

theorem progGood_len {p : ProgD} (hg : progGood p = true) : 1 ≤ p.blocks.length ∧ p.blocks.length ≤ 6 := by
  simp [progGood] at hg; omega

theorem progGood_block {p : ProgD} (hg : progGood p = true) (x : BlockD) (hx : x ∈ p.blocks) : blockGood p.regs p.slots p.blocks.length x = true := by
  simp [progGood, blocksGood] at hg; exact hg.2 x hx

theorem progGood_ops {p : ProgD} (hg : progGood p = true) {k : Nat} (hk : k < p.blocks.length) : (bops p.blocks k).length ≤ 12 := by
  have := progGood_block hg (p.blocks.getD k bz) (getD_mem' hk)
  simp [blockGood] at this
  exact this.1.1

theorem bflat_le {l : List BlockD} (h : ∀ x ∈ l, x.ops.length ≤ 12) : (l.flatMap blockText).length ≤ 53 * l.length := by
  induction l with
  | nil => simp
  | cons x r ih =>
    have h1 := h x (by simp)
    have h2 := ih (fun y hy => h y (by simp [hy]))
    simp only [List.flatMap_cons, List.length_append, blockText_length, List.length_cons]
    omega

theorem progTo_size {p : ProgD} (hg : progGood p = true) (k : Nat) : (progTo p k).size ≤ 330 := by
  have h1 := progGood_len hg
  have h2 := bflat_le (l := p.blocks.take k) (fun x hx => by
    have := progGood_block hg x (List.mem_of_mem_take hx)
    simp [blockGood] at this
    exact this.1.1)
  have h3 : (p.blocks.take k).length ≤ 6 := Nat.le_trans (List.length_take_le' _ _) h1.2
  have e : (progTo p k).size = 7 + ((p.blocks.take k).flatMap blockText).length := by
    simp [progTo, str, ByteArray.size, headText]; omega
  omega

end Go.Proofs.YtblhmeidbjigaaaGreatDoor

/- Terms as plain data: how they are made (P8, P9), pure. -/
set_option linter.unusedSimpArgs false
set_option linter.unusedVariables false
noncomputable section
namespace Go.Proofs.YtblhmeidbjigaaaGreatDoor
open Go.RowKit Classical

/-- A term: a number (100), a letter with its number (101, 102), the cells (103); or an operation of its parts (3 to 12; 13: three parts). -/
inductive TD where
  | leaf (k n : Int)
  | two (k : Int) (a b : TD)
  | three (k : Int) (a b c : TD)

def TD.kind : TD → Int
  | .leaf k _ => k
  | .two k _ _ => k
  | .three k _ _ _ => k

def TD.size : TD → Nat
  | .leaf _ _ => 1
  | .two _ a b => 1 + a.size + b.size
  | .three _ a b c => 1 + a.size + b.size + c.size

def tnum (n : Int) : TD := .leaf 100 n

/-- The number that a term is. -/
def TD.isNum : TD → Option Int
  | .leaf k n => if k = 100 then some n else none
  | _ => none

/-- A sum of something and a number. -/
def TD.isPlus : TD → Option (TD × Int)
  | .two k a b => if k = 3 then b.isNum.map (a, ·) else none
  | _ => none

/-- What is made of '+', u and the number k. -/
def addN : TD → Int → TD
  | .leaf q n, k => if q = 100 then tnum (wrap64 (n + k)) else if k = 0 then .leaf q n else .two 3 (.leaf q n) (tnum k)
  | .two q a b, k =>
    if k = 0 then .two q a b
    else match q, b.isNum with
      | 3, some m => addN a (wrap64 (m + k))
      | _, _ => .two 3 (.two q a b) (tnum k)
  | .three q a b c, k => if k = 0 then .three q a b c else .two 3 (.three q a b c) (tnum k)

/-- P9 (3), the rows with a number v. -/
def besideT (kind : Int) (u : TD) (n : Int) : Option TD :=
  if kind = 4 then some (addN u (wrap64 (0 - n)))
  else if kind = 3 then (if n = 0 then some u else u.isPlus.map fun p => addN p.1 (wrap64 (p.2 + n)))
  else if kind = 5 then (if n = 0 then some (tnum 0) else if n = 1 then some u else none)
  else if kind = 6 then (if n = 0 then some (tnum 0) else if n = -1 then some u else none)
  else if kind = 7 then (if n = 0 then some u else if n = -1 then some (tnum (-1)) else none)
  else if kind = 8 then (if n = 0 then some u else none)
  else if kind = 11 then (if n = 1 then some u else none)
  else none

/-- What a word is plus a number. -/
def thingT (u : TD) : Option TD × Int :=
  match u.isNum with
  | some n => (none, n)
  | none => match u.isPlus with
    | some (a, n) => (some a, n)
    | none => (some u, 0)

def apartT (u v : TD) : Bool := decide ((thingT u).1 = (thingT v).1 ∧ (thingT u).2 ≠ (thingT v).2)

def turnsT (kind : Int) : Bool := decide (kind = 3 ∨ kind = 5 ∨ kind = 6 ∨ kind = 7 ∨ kind = 8 ∨ kind = 10)

/-- P9 (3). -/
def rowT (kind : Int) (u v : TD) : TD :=
  match v.isNum.bind (besideT kind u) with
  | some t => t
  | none =>
    if u = v ∧ (kind = 4 ∨ kind = 8 ∨ kind = 9) then tnum 0
    else if u = v ∧ (kind = 6 ∨ kind = 7) then u
    else if u = v ∧ kind = 10 then tnum 1
    else if kind = 10 ∧ apartT u v = true then tnum 0
    else .two kind u v

/-- P9: read of cells. -/
def readT : TD → TD → TD
  | .three 13 c a v, u => if a = u then v else if apartT a u = true then readT c u else .two 12 (.three 13 c a v) u
  | m, u => .two 12 m u

/-- P9, written (2). -/
def leftT : TD → TD → TD
  | .three 13 c a v, u => if a = u then c else if apartT a u = true then .three 13 (leftT c u) a v else .three 13 c a v
  | m, _ => m

/-- P9, written (3). -/
def laidT : TD → TD → TD → TD
  | .three 13 c a w, u, v =>
    match u.isNum, a.isNum with
    | some n, some k => if k > n then .three 13 (laidT c u v) a w else .three 13 (.three 13 c a w) u v
    | _, _ => .three 13 (.three 13 c a w) u v
  | m, u, v => .three 13 m u v

def writtenT (m u v : TD) : TD := if readT m u = v then m else laidT (leftT m u) u v

end Go.Proofs.YtblhmeidbjigaaaGreatDoor

/- What a block computes, as plain data: texts of terms (P8), places behind operations (P10), marks (P11), pure. -/
set_option linter.unusedSimpArgs false
set_option linter.unusedVariables false
noncomputable section
namespace Go.Proofs.YtblhmeidbjigaaaGreatDoor
open Go.RowKit Classical

def signT (k : Int) : UInt8 :=
  if k = 3 then 43 else if k = 4 then 45 else if k = 5 then 42 else if k = 6 then 38 else if k = 7 then 124 else if k = 8 then 94 else if k = 9 then 60 else if k = 10 then 61 else if k = 11 then 47 else if k = 12 then 64 else 33

/-- P8: a term's text. -/
def showT : TD → List UInt8
  | .leaf k n => if k = 100 then Lib.itoa n else if k = 101 then 114 :: Lib.itoa n else if k = 102 then 120 :: Lib.itoa n else [109]
  | .two k a b => 40 :: signT k :: 32 :: (showT a ++ 32 :: (showT b ++ [41]))
  | .three k a b c => 40 :: signT k :: 32 :: (showT a ++ 32 :: (showT b ++ 32 :: (showT c ++ [41])))

/-- P9, of a sign and words. -/
def madeT (kind : Int) (u v : TD) : TD :=
  match u.isNum, v.isNum with
  | some a, some b => if kind = 11 ∧ b = 0 then rowT kind u v else tnum (calcW kind a b)
  | some _, none => if turnsT kind then rowT kind v u else rowT kind u v
  | none, some _ => rowT kind u v
  | none, none => if turnsT kind ∧ showT v < showT u then rowT kind v u else rowT kind u v

/-- What a place holds at the block's begin; names: by place a register of the source, or below 0. -/
def firstT (names : List Int) (place : Int) : TD :=
  if (names.length : Int) ≤ place then .leaf 103 0 else if names.getD place.toNat 0 < 0 then .leaf 102 place else .leaf 101 (names.getD place.toNat 0)

/-- The place that an operation writes. -/
def writesT (regs slots : Int) (o : OpD) : Int := if o.kind = 13 then regs + slots else if o.kind = 14 then regs + o.a else o.a

/-- P10: what a place holds behind the first k operations. -/
def behindT (regs slots : Int) (names : List Int) (ops : List OpD) : Nat → Int → TD
  | 0, place => firstT names place
  | k + 1, place =>
    let o := ops.getD k oz
    let was := behindT regs slots names ops k
    if writesT regs slots o ≠ place then was place
    else if o.kind = 1 then tnum (256 * o.b + o.c - 32768)
    else if o.kind = 2 ∨ o.kind = 14 then was o.b
    else if o.kind = 15 then was (regs + o.b)
    else if o.kind = 12 then readT (was (regs + slots)) (was o.b)
    else if o.kind = 13 then writtenT (was (regs + slots)) (was o.a) (was o.b)
    else madeT o.kind (was o.b) (was o.c)

/-- P10: is a block big? -/
def bigT (regs slots : Int) (names : List Int) (ops : List OpD) : Bool :=
  (List.range ops.length).any fun k => decide (3 ≤ okind ops k ∧ okind ops k ≤ 13 ∧ 4095 < (behindT regs slots names ops (k + 1) (writesT regs slots (ops.getD k oz))).size)

def plainNames (regs slots : Int) : List Int := (List.range (regs + slots).toNat).map fun (i : Nat) => if (i : Int) < regs then (i : Int) else -1

/-- P11: the mark of the operation behind the first k ones; []: it has none, or it is left out for its numbers. -/
def markT (regs slots data : Int) (names : List Int) (ops : List OpD) (k : Nat) : List UInt8 :=
  let o := ops.getD k oz
  let was := behindT regs slots names ops k
  if o.kind = 11 then
    match (was o.b).isNum, (was o.c).isNum with
    | some _, some y => if y ≠ 0 then [] else 47 :: 32 :: (showT (was o.b) ++ 32 :: showT (was o.c))
    | _, _ => 47 :: 32 :: (showT (was o.b) ++ 32 :: showT (was o.c))
  else if o.kind = 12 ∨ o.kind = 13 then
    let u := was (if o.kind = 12 then o.b else o.a)
    match u.isNum with
    | some n => if 0 ≤ n ∧ n < data then [] else 64 :: 32 :: showT u
    | none => 64 :: 32 :: showT u
  else []

/-- P11: the marks of the first k operations. -/
def marksT (regs slots data : Int) (names : List Int) (ops : List OpD) : Nat → List (List UInt8)
  | 0 => []
  | k + 1 =>
    let l := marksT regs slots data names ops k
    let s := markT regs slots data names ops k
    if s ≠ [] ∧ s ∉ l then l ++ [s] else l

end Go.Proofs.YtblhmeidbjigaaaGreatDoor

/- What is made of '+' and a number; pure. -/
set_option linter.unusedSimpArgs false
set_option linter.unusedVariables false
noncomputable section
namespace Go.Proofs.YtblhmeidbjigaaaGreatDoor
open Go.RowKit Classical

theorem num_isNum (k : Int) : (tnum k).isNum = some k := by simp [tnum, TD.isNum]

theorem row_add (u : TD) (k : Int) : rowT 3 u (tnum k) = if k = 0 then u else match u.isPlus with | some p => addN p.1 (wrap64 (p.2 + k)) | none => .two 3 u (tnum k) := by
  unfold rowT
  rw [num_isNum]
  simp only [Option.bind_some, besideT]
  by_cases hk : k = 0
  · simp [hk]
  · cases hp : u.isPlus with
    | none => simp [hk]
    | some p => simp [hk]

theorem made_add (u : TD) (k : Int) : madeT 3 u (tnum k) = addN u k := by
  cases u with
  | leaf q n =>
    by_cases hq : q = 100
    · subst hq
      have h : (TD.leaf 100 n).isNum = some n := num_isNum n
      simp [madeT, h, num_isNum, addN, calcW]
    · have h : (TD.leaf q n).isNum = none := by simp [TD.isNum, hq]
      have hp : (TD.leaf q n).isPlus = none := rfl
      simp only [madeT, h, num_isNum, row_add, hp, addN, if_neg hq]
  | two q a b =>
    have h : (TD.two q a b).isNum = none := rfl
    simp only [madeT, h, num_isNum, row_add, addN]
    by_cases hk : k = 0
    · simp [hk]
    · simp only [if_neg hk]
      by_cases hq : q = 3
      · subst hq
        cases hb : b.isNum with
        | none => simp [TD.isPlus, hb]
        | some m => simp [TD.isPlus, hb]
      · simp only [TD.isPlus, if_neg hq]
        split
        · exact absurd rfl hq
        · rfl
  | three q a b c =>
    have h : (TD.three q a b c).isNum = none := rfl
    have hp : (TD.three q a b c).isPlus = none := rfl
    simp only [madeT, h, num_isNum, row_add, hp, addN]

/-- P9 (3), behind the rows with a number. -/
def restT (kind : Int) (u v : TD) : TD :=
  if u = v ∧ (kind = 4 ∨ kind = 8 ∨ kind = 9) then tnum 0
  else if u = v ∧ (kind = 6 ∨ kind = 7) then u
  else if u = v ∧ kind = 10 then tnum 1
  else if kind = 10 ∧ apartT u v = true then tnum 0
  else .two kind u v

theorem row_rest {kind : Int} {u v : TD} (h : v.isNum.bind (besideT kind u) = none) : rowT kind u v = restT kind u v := by
  unfold rowT restT; rw [h]

theorem row_some {kind : Int} {u v t : TD} (h : v.isNum.bind (besideT kind u) = some t) : rowT kind u v = t := by
  unfold rowT; rw [h]

theorem rest_zero {kind : Int} {u v : TD} (h : u = v) (hk : kind = 4 ∨ kind = 8 ∨ kind = 9) : restT kind u v = tnum 0 := by
  unfold restT; rw [if_pos ⟨h, hk⟩]

theorem rest_self {kind : Int} {u v : TD} (h : u = v) (hk : kind = 6 ∨ kind = 7) : restT kind u v = u := by
  unfold restT; rw [if_neg (by omega), if_pos ⟨h, hk⟩]

theorem rest_one {kind : Int} {u v : TD} (h : u = v) (hk : kind = 10) : restT kind u v = tnum 1 := by
  unfold restT; rw [if_neg (by omega), if_neg (by omega), if_pos ⟨h, hk⟩]

theorem rest_apart {kind : Int} {u v : TD} (h : u ≠ v) (hk : kind = 10) (ha : apartT u v = true) : restT kind u v = tnum 0 := by
  unfold restT; rw [if_neg (fun q => h q.1), if_neg (fun q => h q.1), if_neg (fun q => h q.1), if_pos ⟨hk, ha⟩]

theorem rest_else {kind : Int} {u v : TD} (h : u ≠ v) (ha : ¬ (kind = 10 ∧ apartT u v = true)) : restT kind u v = .two kind u v := by
  unfold restT; rw [if_neg (fun q => h q.1), if_neg (fun q => h q.1), if_neg (fun q => h q.1), if_neg ha]

theorem rest_kind {kind : Int} {u v : TD} (hk : kind = 3 ∨ kind = 5 ∨ kind = 11) : restT kind u v = .two kind u v := by
  unfold restT; rw [if_neg (by omega), if_neg (by omega), if_neg (by omega), if_neg (by omega)]

theorem isNum_bind_none {kind : Int} {u v : TD} (h : v.isNum = none) : v.isNum.bind (besideT kind u) = none := by rw [h]; rfl

end Go.Proofs.YtblhmeidbjigaaaGreatDoor

/- Two terms are the same if their texts are: pure. -/
set_option linter.unusedSimpArgs false
set_option linter.unusedVariables false
noncomputable section
namespace Go.Proofs.YtblhmeidbjigaaaGreatDoor
open Go.RowKit Classical

/-- Bytes of a numeral. -/
def numByte (c : UInt8) : Bool := decide (c = 45 ∨ (48 ≤ c.toNat ∧ c.toNat ≤ 57))

theorem digit_byte {d : Nat} (h : d < 10) : (UInt8.ofNat (48 + d)).toNat = 48 + d := by
  rw [UInt8.toNat_ofNat']
  omega

theorem decDigits_bytes (u : Nat) : ∀ c ∈ Lib.decDigits u, 48 ≤ c.toNat ∧ c.toNat ≤ 57 := by
  induction u using Nat.strongRecOn with
  | _ u ih =>
    intro c hc
    by_cases h : u < 10
    · rw [Lib.decDigits_one h] at hc
      simp only [List.mem_singleton] at hc
      subst hc
      rw [digit_byte h]
      omega
    · rw [Lib.decDigits, dif_neg h] at hc
      rcases List.mem_append.1 hc with hc | hc
      · exact ih (u / 10) (by omega) c hc
      · simp only [List.mem_singleton] at hc
        subst hc
        rw [digit_byte (Nat.mod_lt _ (by decide))]
        omega

theorem decDigits_ne (u : Nat) : Lib.decDigits u ≠ [] := by
  intro e
  have := congrArg List.length e
  rw [Lib.decDigits_length] at this
  have := Lib.nDigits_pos u
  simp at *
  omega

theorem decDigits_inj {u v : Nat} (h : Lib.decDigits u = Lib.decDigits v) : u = v := by
  induction u using Nat.strongRecOn generalizing v with
  | _ u ih =>
    by_cases hu : u < 10
    · by_cases hv : v < 10
      · rw [Lib.decDigits_one hu, Lib.decDigits_one hv] at h
        have := congrArg UInt8.toNat (List.cons.inj h).1
        rw [digit_byte hu, digit_byte hv] at this
        omega
      · exfalso
        rw [Lib.decDigits_one hu, Lib.decDigits, dif_neg hv] at h
        have h2 := congrArg List.length h
        simp only [List.length_append, List.length_cons, List.length_nil] at h2
        have := decDigits_ne (v / 10)
        have : 0 < (Lib.decDigits (v / 10)).length := List.length_pos_iff.2 this
        omega
    · by_cases hv : v < 10
      · exfalso
        rw [Lib.decDigits_one hv, Lib.decDigits, dif_neg hu] at h
        have h2 := congrArg List.length h
        simp only [List.length_append, List.length_cons, List.length_nil] at h2
        have := decDigits_ne (u / 10)
        have : 0 < (Lib.decDigits (u / 10)).length := List.length_pos_iff.2 this
        omega
      · rw [Lib.decDigits, dif_neg hu] at h
        conv at h => rhs; rw [Lib.decDigits, dif_neg hv]
        obtain ⟨h1, h2⟩ := List.append_inj' h rfl
        have e1 := ih (u / 10) (by omega) h1
        have e2 := congrArg UInt8.toNat (List.cons.inj h2).1
        rw [digit_byte (Nat.mod_lt _ (by decide)), digit_byte (Nat.mod_lt _ (by decide))] at e2
        omega

theorem itoa_bytes (n : Int) : ∀ c ∈ Lib.itoa n, numByte c = true := by
  intro c hc
  unfold Lib.itoa at hc
  simp only [numByte, decide_eq_true_eq]
  split at hc
  · rcases List.mem_cons.1 hc with hc | hc
    · exact .inl hc
    · exact .inr (decDigits_bytes _ c hc)
  · exact .inr (decDigits_bytes _ c hc)

theorem itoa_head (n : Int) : ∃ c l, Lib.itoa n = c :: l ∧ numByte c = true := by
  cases h : Lib.itoa n with
  | nil =>
    exfalso
    unfold Lib.itoa at h
    split at h
    · cases h
    · exact decDigits_ne _ h
  | cons c l => exact ⟨c, l, rfl, itoa_bytes n c (by rw [h]; simp)⟩

theorem itoa_inj {n m : Int} (h : Lib.itoa n = Lib.itoa m) : n = m := by
  have hd : ∀ u : Nat, ∃ c l, Lib.decDigits u = c :: l ∧ 48 ≤ c.toNat := by
    intro u
    cases e : Lib.decDigits u with
    | nil => exact absurd e (decDigits_ne u)
    | cons c l => exact ⟨c, l, rfl, (decDigits_bytes u c (by rw [e]; simp)).1⟩
  unfold Lib.itoa at h
  split at h
  · split at h
    · have := decDigits_inj (List.cons.inj h).2
      omega
    · exfalso
      obtain ⟨c, l, e, hc⟩ := hd m.toNat
      rw [e] at h
      have := (List.cons.inj h).1
      subst this
      simp at hc
  · split at h
    · exfalso
      obtain ⟨c, l, e, hc⟩ := hd n.toNat
      rw [e] at h
      have := (List.cons.inj h).1
      subst this
      simp at hc
    · have := decDigits_inj h
      omega

/-- Nothing, or a byte that no numeral has. -/
def Stops (x : List UInt8) : Prop := ∀ c l, x = c :: l → numByte c = false

theorem takeWhile_stops {l x : List UInt8} (hl : ∀ c ∈ l, numByte c = true) (hx : Stops x) : (l ++ x).takeWhile numByte = l := by
  induction l with
  | nil =>
    cases x with
    | nil => rfl
    | cons c r => simp [hx c r rfl]
  | cons c r ih =>
    simp only [List.cons_append, List.takeWhile_cons, hl c (by simp), if_true]
    rw [ih (fun d hd => hl d (by simp [hd]))]

theorem itoa_cut {n m : Int} {x y : List UInt8} (hx : Stops x) (hy : Stops y) (h : Lib.itoa n ++ x = Lib.itoa m ++ y) : n = m ∧ x = y := by
  have h1 := takeWhile_stops (itoa_bytes n) hx
  have h2 := takeWhile_stops (itoa_bytes m) hy
  rw [h] at h1
  have e : Lib.itoa n = Lib.itoa m := h1.symm.trans h2
  rw [e] at h
  exact ⟨itoa_inj e, List.append_cancel_left h⟩

/-- Terms as they are made. -/
def TD.ok : TD → Prop
  | .leaf k n => k = 100 ∨ k = 101 ∨ k = 102 ∨ (k = 103 ∧ n = 0)
  | .two k a b => 3 ≤ k ∧ k ≤ 12 ∧ a.ok ∧ b.ok
  | .three k a b c => k = 13 ∧ a.ok ∧ b.ok ∧ c.ok

theorem sign_inj {k q : Int} (hk : 3 ≤ k ∧ k ≤ 13) (hq : 3 ≤ q ∧ q ≤ 13) (h : signT k = signT q) : k = q := by
  have a : k = 3 ∨ k = 4 ∨ k = 5 ∨ k = 6 ∨ k = 7 ∨ k = 8 ∨ k = 9 ∨ k = 10 ∨ k = 11 ∨ k = 12 ∨ k = 13 := by omega
  have b : q = 3 ∨ q = 4 ∨ q = 5 ∨ q = 6 ∨ q = 7 ∨ q = 8 ∨ q = 9 ∨ q = 10 ∨ q = 11 ∨ q = 12 ∨ q = 13 := by omega
  rcases a with rfl | rfl | rfl | rfl | rfl | rfl | rfl | rfl | rfl | rfl | rfl <;>
    rcases b with rfl | rfl | rfl | rfl | rfl | rfl | rfl | rfl | rfl | rfl | rfl <;> first | rfl | (exfalso; revert h; decide)

/-- The first byte of a term's text. -/
theorem show_head (t : TD) (h : t.ok) : ∃ c l, showT t = c :: l ∧ ((∃ n, t = .leaf 100 n ∧ numByte c = true) ∨ (∃ n, t = .leaf 101 n ∧ c = 114) ∨ (∃ n, t = .leaf 102 n ∧ c = 120) ∨ (t = .leaf 103 0 ∧ c = 109) ∨ ((∀ k n, t ≠ .leaf k n) ∧ c = 40)) := by
  cases t with
  | leaf k n =>
    rcases h with rfl | rfl | rfl | ⟨rfl, rfl⟩
    · obtain ⟨c, l, e, hc⟩ := itoa_head n
      exact ⟨c, l, by simpa [showT] using e, .inl ⟨n, rfl, hc⟩⟩
    · exact ⟨114, Lib.itoa n, by simp [showT], .inr (.inl ⟨n, rfl, rfl⟩)⟩
    · exact ⟨120, Lib.itoa n, by simp [showT], .inr (.inr (.inl ⟨n, rfl, rfl⟩))⟩
    · exact ⟨109, [], by simp [showT], .inr (.inr (.inr (.inl ⟨rfl, rfl⟩)))⟩
  | two k a b => exact ⟨40, _, rfl, .inr (.inr (.inr (.inr ⟨(fun _ _ e => by cases e), rfl⟩)))⟩
  | three k a b c => exact ⟨40, _, rfl, .inr (.inr (.inr (.inr ⟨(fun _ _ e => by cases e), rfl⟩)))⟩

theorem stops_of {c : UInt8} (l : List UInt8) (h : numByte c = false) : Stops (c :: l) := fun d r e => by
  obtain ⟨rfl, _⟩ := List.cons.inj e
  exact h

/-- A text is read in one way. -/
theorem show_cut : ∀ (t u : TD) (x y : List UInt8), t.ok → u.ok → Stops x → Stops y → showT t ++ x = showT u ++ y → t = u ∧ x = y := by
  intro t
  induction t with
  | leaf k n =>
    intro u x y ht hu hx hy h
    obtain ⟨c, l, e, hc⟩ := show_head _ ht
    obtain ⟨d, r, e', hd⟩ := show_head u hu
    have hcd : c = d := by rw [e, e'] at h; exact (List.cons.inj h).1
    subst hcd
    rcases hc with ⟨n1, e1, hb⟩ | ⟨n1, e1, rfl⟩ | ⟨n1, e1, rfl⟩ | ⟨e1, rfl⟩ | ⟨e1, rfl⟩
    · rcases hd with ⟨m, rfl, _⟩ | ⟨m, rfl, rfl⟩ | ⟨m, rfl, rfl⟩ | ⟨rfl, rfl⟩ | ⟨_, rfl⟩
      · cases e1
        simp only [showT, if_true] at h
        obtain ⟨rfl, rfl⟩ := itoa_cut hx hy h
        exact ⟨rfl, rfl⟩
      all_goals simp [numByte] at hb
    · rcases hd with ⟨m, rfl, hb⟩ | ⟨m, rfl, _⟩ | ⟨m, rfl, hb⟩ | ⟨rfl, hb⟩ | ⟨_, hb⟩
      · simp [numByte] at hb
      · cases e1
        simp [showT] at h
        obtain ⟨rfl, rfl⟩ := itoa_cut hx hy h
        exact ⟨rfl, rfl⟩
      all_goals simp at hb
    · rcases hd with ⟨m, rfl, hb⟩ | ⟨m, rfl, hb⟩ | ⟨m, rfl, _⟩ | ⟨rfl, hb⟩ | ⟨_, hb⟩
      · simp [numByte] at hb
      · simp at hb
      · cases e1
        simp [showT] at h
        obtain ⟨rfl, rfl⟩ := itoa_cut hx hy h
        exact ⟨rfl, rfl⟩
      all_goals simp at hb
    · rcases hd with ⟨m, rfl, hb⟩ | ⟨m, rfl, hb⟩ | ⟨m, rfl, hb⟩ | ⟨rfl, _⟩ | ⟨_, hb⟩
      · simp [numByte] at hb
      · simp at hb
      · simp at hb
      · cases e1
        simp [showT] at h
        exact ⟨rfl, h⟩
      · simp at hb
    · exact absurd rfl (e1 k n)
  | two k a b iha ihb =>
    intro u x y ht hu hx hy h
    obtain ⟨d, r, e', hd⟩ := show_head u hu
    have hcd : (40 : UInt8) = d := by rw [e'] at h; exact (List.cons.inj h).1
    subst hcd
    rcases hd with ⟨m, rfl, hb⟩ | ⟨m, rfl, hb⟩ | ⟨m, rfl, hb⟩ | ⟨rfl, hb⟩ | ⟨hn, _⟩
    · simp [numByte] at hb
    · simp at hb
    · simp at hb
    · simp at hb
    obtain ⟨k1, k2, oa, ob⟩ := ht
    cases u with
    | leaf q m => exact absurd rfl (hn q m)
    | two q a' b' =>
      obtain ⟨q1, q2, oa', ob'⟩ := hu
      simp only [showT, List.cons_append, List.append_assoc, List.cons.injEq, true_and] at h
      obtain ⟨hs, h⟩ := h
      obtain rfl := sign_inj ⟨k1, by omega⟩ ⟨q1, by omega⟩ hs
      obtain ⟨rfl, h2⟩ := iha a' _ _ oa oa' (stops_of _ (by decide)) (stops_of _ (by decide)) h
      have h3 := (List.cons.inj h2).2
      obtain ⟨rfl, h4⟩ := ihb b' _ _ ob ob' (stops_of _ (by decide)) (stops_of _ (by decide)) h3
      exact ⟨rfl, by simpa using h4⟩
    | three q a' b' c' =>
      exfalso
      obtain ⟨rfl, oa', ob', oc'⟩ := hu
      simp only [showT, List.cons_append, List.append_assoc, List.cons.injEq, true_and] at h
      have := sign_inj ⟨k1, by omega⟩ ⟨by omega, by omega⟩ h.1
      omega
  | three k a b c iha ihb ihc =>
    intro u x y ht hu hx hy h
    obtain ⟨d, r, e', hd⟩ := show_head u hu
    have hcd : (40 : UInt8) = d := by rw [e'] at h; exact (List.cons.inj h).1
    subst hcd
    rcases hd with ⟨m, rfl, hb⟩ | ⟨m, rfl, hb⟩ | ⟨m, rfl, hb⟩ | ⟨rfl, hb⟩ | ⟨hn, _⟩
    · simp [numByte] at hb
    · simp at hb
    · simp at hb
    · simp at hb
    obtain ⟨rfl, oa, ob, oc⟩ := ht
    cases u with
    | leaf q m => exact absurd rfl (hn q m)
    | two q a' b' =>
      exfalso
      obtain ⟨q1, q2, oa', ob'⟩ := hu
      simp only [showT, List.cons_append, List.append_assoc, List.cons.injEq, true_and] at h
      have := sign_inj ⟨by omega, by omega⟩ ⟨q1, by omega⟩ h.1
      omega
    | three q a' b' c' =>
      obtain ⟨rfl, oa', ob', oc'⟩ := hu
      simp only [showT, List.cons_append, List.append_assoc, List.cons.injEq, true_and] at h
      obtain ⟨rfl, h2⟩ := iha a' _ _ oa oa' (stops_of _ (by decide)) (stops_of _ (by decide)) h
      have h3 := (List.cons.inj h2).2
      obtain ⟨rfl, h4⟩ := ihb b' _ _ ob ob' (stops_of _ (by decide)) (stops_of _ (by decide)) h3
      have h5 := (List.cons.inj h4).2
      obtain ⟨rfl, h6⟩ := ihc c' _ _ oc oc' (stops_of _ (by decide)) (stops_of _ (by decide)) h5
      exact ⟨rfl, by simpa using h6⟩

/-- P8: two terms are the same if their texts are. -/
theorem show_inj {t u : TD} (ht : t.ok) (hu : u.ok) (h : showT t = showT u) : t = u :=
  (show_cut t u [] [] ht hu (fun _ _ e => by cases e) (fun _ _ e => by cases e) (by simpa using h)).1

end Go.Proofs.YtblhmeidbjigaaaGreatDoor

/- Terms as they are made: their kinds, their numbers, how long their texts are; pure. -/
set_option linter.unusedSimpArgs false
set_option linter.unusedVariables false
noncomputable section
namespace Go.Proofs.YtblhmeidbjigaaaGreatDoor
open Go.RowKit Classical

def W64 (n : Int) : Prop := -9223372036854775808 ≤ n ∧ n ≤ 9223372036854775807

theorem w64_of {n : Int} (h : (Lit.int .i64 n).wf = true) : W64 n := by
  simp only [Lit.wf, Bool.and_eq_true, decide_eq_true_eq] at h
  exact ⟨Int.le_trans (by decide) h.1, Int.le_trans h.2 (by decide)⟩

theorem w64_wrap (n : Int) : W64 (wrap64 n) := w64_of (wrap64_wf n)

theorem w64_small {n : Int} (h : -1000000 ≤ n ∧ n ≤ 1000000) : W64 n := ⟨by omega, by omega⟩

theorem w64_calc (k x y : Int) : W64 (calcW k x y) := by
  unfold calcW
  repeat' split
  all_goals first | exact w64_wrap _ | exact w64_of (wf_bits _ _ _ _) | exact w64_small (by omega)

/-- A term as it is made. -/
def TD.fine : TD → Prop
  | .leaf k n => (k = 100 ∨ k = 101 ∨ k = 102 ∨ (k = 103 ∧ n = 0)) ∧ W64 n
  | .two k a b => 3 ≤ k ∧ k ≤ 12 ∧ a.fine ∧ b.fine
  | .three k a b c => k = 13 ∧ a.fine ∧ b.fine ∧ c.fine

theorem TD.fine.ok {t : TD} (h : t.fine) : t.ok := by
  induction t with
  | leaf k n => exact h.1
  | two k a b iha ihb => exact ⟨h.1, h.2.1, iha h.2.2.1, ihb h.2.2.2⟩
  | three k a b c iha ihb ihc => exact ⟨h.1, iha h.2.1, ihb h.2.2.1, ihc h.2.2.2⟩

theorem TD.size_pos (t : TD) : 1 ≤ t.size := by cases t <;> simp only [TD.size] <;> omega

theorem show_length {t : TD} (h : t.fine) : (showT t).length ≤ 24 * t.size := by
  induction t with
  | leaf k n =>
    have hl := Lib.itoa_length_le n h.2.1 h.2.2
    simp only [showT, TD.size]
    repeat' split
    all_goals (try simp only [List.length_cons, List.length_nil]); omega
  | two k a b iha ihb =>
    have h1 := iha h.2.2.1
    have h2 := ihb h.2.2.2
    simp only [showT, TD.size, List.length_cons, List.length_append, List.length_nil]
    omega
  | three k a b c iha ihb ihc =>
    have h1 := iha h.2.1
    have h2 := ihb h.2.2.1
    have h3 := ihc h.2.2.2
    simp only [showT, TD.size, List.length_cons, List.length_append, List.length_nil]
    omega

theorem tnum_fine {n : Int} (h : W64 n) : (tnum n).fine := ⟨.inl rfl, h⟩

theorem isNum_some {t : TD} {n : Int} (h : t.isNum = some n) : t = tnum n := by
  cases t with
  | leaf k m =>
    simp only [TD.isNum] at h
    split at h
    · rename_i e; subst e; cases h; rfl
    · cases h
  | two k a b => cases h
  | three k a b c => cases h

theorem isNum_fine {t : TD} {n : Int} (h : t.isNum = some n) (hf : t.fine) : W64 n := by
  rw [isNum_some h] at hf
  exact hf.2

theorem isPlus_some {t a : TD} {n : Int} (h : t.isPlus = some (a, n)) : t = .two 3 a (tnum n) := by
  cases t with
  | leaf k m => cases h
  | two k x y =>
    simp only [TD.isPlus] at h
    split at h
    · rename_i e
      subst e
      cases hy : y.isNum with
      | none => rw [hy] at h; cases h
      | some m =>
        rw [hy] at h
        simp only [Option.map_some, Option.some.injEq, Prod.mk.injEq] at h
        obtain ⟨rfl, rfl⟩ := h
        rw [isNum_some hy]
    · cases h
  | three k x y z => cases h

theorem addN_fine : ∀ (u : TD) (k : Int), u.fine → W64 k → (addN u k).fine := by
  intro u
  induction u with
  | leaf q n =>
    intro k hu hk
    simp only [addN]
    repeat' split
    · exact tnum_fine (w64_wrap _)
    · exact hu
    · exact ⟨by omega, by omega, hu, tnum_fine hk⟩
  | two q a b iha ihb =>
    intro k hu hk
    simp only [addN]
    split
    · exact hu
    · split
      · exact iha _ hu.2.2.1 (w64_wrap _)
      · exact ⟨by omega, by omega, hu, tnum_fine hk⟩
  | three q a b c =>
    intro k hu hk
    simp only [addN]
    split
    · exact hu
    · exact ⟨by omega, by omega, hu, tnum_fine hk⟩

theorem besideT_fine {kind n : Int} {u t : TD} (h : besideT kind u n = some t) (hu : u.fine) (hn : W64 n) : t.fine := by
  unfold besideT at h
  repeat' split at h
  all_goals first
    | (cases h; done)
    | (simp only [Option.some.injEq] at h; subst h; first | exact hu | exact addN_fine _ _ hu (w64_wrap _) | exact tnum_fine (w64_small (by omega)))
    | skip
  cases hp : u.isPlus with
  | none => rw [hp] at h; cases h
  | some p =>
    obtain ⟨a, m⟩ := p
    rw [hp] at h
    simp only [Option.map_some, Option.some.injEq] at h
    subst h
    have e := isPlus_some hp
    subst e
    exact addN_fine _ _ hu.2.2.1 (w64_wrap _)

theorem rowT_fine {kind : Int} {u v : TD} (hk : 3 ≤ kind ∧ kind ≤ 11) (hu : u.fine) (hv : v.fine) : (rowT kind u v).fine := by
  unfold rowT
  split
  · rename_i t ht
    cases hn : v.isNum with
    | none => rw [hn] at ht; cases ht
    | some n =>
      rw [hn] at ht
      exact besideT_fine (by simpa using ht) hu (isNum_fine hn hv)
  · repeat' split
    · exact tnum_fine (w64_small (by omega))
    · exact hu
    · exact tnum_fine (w64_small (by omega))
    · exact tnum_fine (w64_small (by omega))
    · exact ⟨hk.1, by omega, hu, hv⟩

theorem madeT_fine {kind : Int} {u v : TD} (hk : 3 ≤ kind ∧ kind ≤ 11) (hu : u.fine) (hv : v.fine) : (madeT kind u v).fine := by
  unfold madeT
  split
  · split
    · exact rowT_fine hk hu hv
    · exact tnum_fine (w64_calc _ _ _)
  · split
    · exact rowT_fine hk hv hu
    · exact rowT_fine hk hu hv
  · exact rowT_fine hk hu hv
  · split
    · exact rowT_fine hk hv hu
    · exact rowT_fine hk hu hv

theorem readT_fine (m u : TD) (hm : m.fine) (hu : u.fine) : (readT m u).fine := by
  induction m with
  | leaf k n => exact ⟨by omega, by omega, hm, hu⟩
  | two k a b => exact ⟨by omega, by omega, hm, hu⟩
  | three k c a v ihc iha ihv =>
    obtain rfl : k = 13 := hm.1
    simp only [readT]
    repeat' split
    · exact hm.2.2.2
    · exact ihc hm.2.1
    · exact ⟨by omega, by omega, hm, hu⟩

theorem leftT_fine (m u : TD) (hm : m.fine) : (leftT m u).fine := by
  induction m with
  | leaf k n => exact hm
  | two k a b => exact hm
  | three k c a v ihc iha ihv =>
    obtain rfl : k = 13 := hm.1
    simp only [leftT]
    repeat' split
    · exact hm.2.1
    · exact ⟨rfl, ihc hm.2.1, hm.2.2.1, hm.2.2.2⟩
    · exact hm

theorem laidT_fine (m u v : TD) (hm : m.fine) (hu : u.fine) (hv : v.fine) : (laidT m u v).fine := by
  induction m with
  | leaf k n => exact ⟨rfl, hm, hu, hv⟩
  | two k a b => exact ⟨rfl, hm, hu, hv⟩
  | three k c a w ihc iha ihw =>
    obtain rfl : k = 13 := hm.1
    simp only [laidT]
    split
    · split
      · exact ⟨rfl, ihc hm.2.1, hm.2.2.1, hm.2.2.2⟩
      · exact ⟨rfl, hm, hu, hv⟩
    · exact ⟨rfl, hm, hu, hv⟩

theorem writtenT_fine (m u v : TD) (hm : m.fine) (hu : u.fine) (hv : v.fine) : (writtenT m u v).fine := by
  unfold writtenT
  split
  · exact hm
  · exact laidT_fine _ _ _ (leftT_fine _ _ hm) hu hv

end Go.Proofs.YtblhmeidbjigaaaGreatDoor

/- Runs as plain data; a run underway in memory: four lists of words, each in a block of its own. -/
set_option linter.unusedSimpArgs false
set_option linter.unusedVariables false
namespace Go.Proofs.YtblhmeidbjigaaaGreatDoor
open Go.RowKit

/-! ### Runs, pure -/

structure RunD where
  regs : List Int
  cells : List Int
  slots : List Int
  leak : List Int
  trap : Int

def rg (l : List Int) (i : Int) : Int := l.getD i.toNat 0
def stI (l : List Int) (i v : Int) : List Int := l.set i.toNat v

/-- A Load or Store of the cell n: it is let out. -/
def RunD.out (s : RunD) (n : Int) : RunD := ⟨s.regs, s.cells, s.slots, s.leak ++ [n], s.trap⟩
def RunD.reg (s : RunD) (i v : Int) : RunD := ⟨stI s.regs i v, s.cells, s.slots, s.leak, s.trap⟩
def RunD.cell (s : RunD) (i v : Int) : RunD := ⟨s.regs, stI s.cells i v, s.slots, s.leak, s.trap⟩
/-! ### In memory -/

def ints (l : List Int) : List Value := l.map (.int .i64)

theorem ints_length (l : List Int) : (ints l).length = l.length := by simp [ints]
theorem ints_snoc (l : List Int) (v : Int) : ints (l ++ [v]) = ints l ++ [.int .i64 v] := by simp [ints]

theorem Tryz.infoInt : (Tryz.prog.info? 3).map (fun i => (i.zero, i.size, i.bytes)) = some (some (.int .i64 0), 1, 8) := by kernel_rfl

section
variable {K : Nat → Prop} {w w' : World} {rv cv sv lv : Value} {s : RunD}

end

end Go.Proofs.YtblhmeidbjigaaaGreatDoor

/- A block's terms, worked out, are what its run leaves: pure. -/
set_option linter.unusedSimpArgs false
set_option linter.unusedVariables false
noncomputable section
namespace Go.Proofs.YtblhmeidbjigaaaGreatDoor
open Go.RowKit Classical

theorem firstT_fine {names : List Int} (hn : ∀ x ∈ names, x ≤ 1000) {place : Int} (hp : 0 ≤ place ∧ place ≤ 1000) : (firstT names place).fine := by
  unfold firstT
  split
  · exact ⟨.inr (.inr (.inr ⟨rfl, rfl⟩)), w64_small (by omega)⟩
  · split
    · exact ⟨.inr (.inr (.inl rfl)), w64_small (by omega)⟩
    · rename_i h1 h2
      have hm : names.getD place.toNat 0 ∈ names := getD_mem' (by omega)
      have := hn _ hm
      exact ⟨.inr (.inl rfl), w64_small (by omega)⟩

/-- The fields of a good operation. -/
theorem good_fields {regs slots : Int} {o : OpD} (h : opGood regs slots o = true) :
    (o.kind = 1 ∧ (0 ≤ o.a ∧ o.a < regs) ∧ (0 ≤ o.b ∧ o.b < 256) ∧ (0 ≤ o.c ∧ o.c < 256)) ∨
    ((o.kind = 2 ∨ o.kind = 12 ∨ o.kind = 13) ∧ (0 ≤ o.a ∧ o.a < regs) ∧ (0 ≤ o.b ∧ o.b < regs)) ∨
    ((3 ≤ o.kind ∧ o.kind ≤ 11) ∧ (0 ≤ o.a ∧ o.a < regs) ∧ (0 ≤ o.b ∧ o.b < regs) ∧ (0 ≤ o.c ∧ o.c < regs)) ∨
    (o.kind = 14 ∧ (0 ≤ o.a ∧ o.a < slots) ∧ (0 ≤ o.b ∧ o.b < regs)) ∨
    (o.kind = 15 ∧ (0 ≤ o.a ∧ o.a < regs) ∧ (0 ≤ o.b ∧ o.b < slots)) := by
  unfold opGood at h
  repeat' split at h
  all_goals simp [below] at h
  all_goals omega

theorem opsGood_getD {regs slots : Int} {ops : List OpD} (h : opsGood regs slots ops = true) {k : Nat} (hk : k < ops.length) : opGood regs slots (ops.getD k oz) = true :=
  List.all_eq_true.1 h _ (getD_mem' hk)

theorem behindT_fine {regs slots : Int} {names : List Int} {ops : List OpD} (hr : 0 ≤ regs ∧ regs ≤ 100) (hs : 0 ≤ slots ∧ slots ≤ 100) (hn : ∀ x ∈ names, x ≤ 1000) (hg : opsGood regs slots ops = true) :
    ∀ (k : Nat), k ≤ ops.length → ∀ place : Int, 0 ≤ place → place ≤ regs + slots → (behindT regs slots names ops k place).fine := by
  intro k
  induction k with
  | zero => intro _ place h0 h1; exact firstT_fine hn ⟨h0, by omega⟩
  | succ k ih =>
    intro hk place h0 h1
    have ih := ih (by omega)
    have hf := good_fields (opsGood_getD hg (show k < ops.length by omega))
    simp only [behindT]
    generalize ops.getD k oz = o at *
    repeat' split
    · exact ih place h0 h1
    · exact tnum_fine (w64_small (by omega))
    · exact ih _ (by omega) (by omega)
    · exact ih _ (by omega) (by omega)
    · exact readT_fine _ _ (ih _ (by omega) (by omega)) (ih _ (by omega) (by omega))
    · exact writtenT_fine _ _ _ (ih _ (by omega) (by omega)) (ih _ (by omega) (by omega)) (ih _ (by omega) (by omega))
    · exact madeT_fine (by omega) (ih _ (by omega) (by omega)) (ih _ (by omega) (by omega))

end Go.Proofs.YtblhmeidbjigaaaGreatDoor

/- How great terms become: pure. -/
set_option linter.unusedSimpArgs false
set_option linter.unusedVariables false
noncomputable section
namespace Go.Proofs.YtblhmeidbjigaaaGreatDoor
open Go.RowKit Classical

theorem addN_size : ∀ (u : TD) (k : Int), (addN u k).size ≤ u.size + 2 := by
  intro u
  induction u with
  | leaf q n =>
    intro k
    simp only [addN]
    repeat' split
    all_goals simp only [tnum, TD.size]; omega
  | two q a b iha ihb =>
    intro k
    simp only [addN]
    split
    · omega
    · split
      · rename_i m _
        have h1 := iha (wrap64 (m + k))
        simp only [TD.size]
        omega
      · simp only [tnum, TD.size]; omega
  | three q a b c =>
    intro k
    simp only [addN]
    split
    · omega
    · simp only [tnum, TD.size]; omega

theorem besideT_size {kind n : Int} {u t : TD} (h : besideT kind u n = some t) : t.size ≤ u.size + 2 := by
  have hp := u.size_pos
  unfold besideT at h
  repeat' split at h
  all_goals first
    | (cases h; done)
    | (simp only [Option.some.injEq] at h; subst h; first | omega | exact addN_size _ _ | (simp only [tnum, TD.size]; omega))
    | skip
  cases hu : u.isPlus with
  | none => rw [hu] at h; cases h
  | some p =>
    obtain ⟨a, m⟩ := p
    rw [hu] at h
    simp only [Option.map_some, Option.some.injEq] at h
    subst h
    have e := isPlus_some hu
    subst e
    have := addN_size a (wrap64 (m + n))
    simp only [tnum, TD.size]
    omega

theorem rowT_size (kind : Int) (u v : TD) : (rowT kind u v).size ≤ 1 + u.size + v.size := by
  have hu := u.size_pos
  have hv := v.size_pos
  unfold rowT
  split
  · rename_i t ht
    cases hn : v.isNum with
    | none => rw [hn] at ht; cases ht
    | some n =>
      rw [hn] at ht
      have := besideT_size (by simpa using ht)
      omega
  · repeat' split
    all_goals (try simp only [tnum, TD.size]); omega

theorem madeT_size (kind : Int) (u v : TD) : (madeT kind u v).size ≤ 1 + u.size + v.size := by
  have h1 := rowT_size kind u v
  have h2 := rowT_size kind v u
  have hu := u.size_pos
  unfold madeT
  repeat' split
  all_goals (try simp only [tnum, TD.size]); omega

theorem readT_size (m u : TD) : (readT m u).size ≤ 1 + m.size + u.size := by
  induction m with
  | leaf k n => simp only [readT, TD.size]; omega
  | two k a b => simp only [readT, TD.size]; omega
  | three k c a v ihc iha ihv =>
    by_cases hk : k = 13
    · subst hk
      simp only [readT]
      repeat' split
      all_goals (try simp only [TD.size] at *); omega
    · have e : readT (.three k c a v) u = .two 12 (.three k c a v) u := by
        unfold readT
        split
        · rename_i h; cases h; exact absurd rfl hk
        · rfl
      rw [e]
      simp only [TD.size]
      omega

theorem leftT_size (m u : TD) : (leftT m u).size ≤ m.size := by
  induction m with
  | leaf k n => simp only [leftT]; omega
  | two k a b => simp only [leftT]; omega
  | three k c a v ihc iha ihv =>
    by_cases hk : k = 13
    · subst hk
      simp only [leftT]
      repeat' split
      all_goals (try simp only [TD.size] at *); omega
    · have e : leftT (.three k c a v) u = .three k c a v := by
        unfold leftT
        split
        · rename_i h; cases h; exact absurd rfl hk
        · rfl
      rw [e]
      omega

theorem laidT_size (m u v : TD) : (laidT m u v).size ≤ 1 + m.size + u.size + v.size := by
  induction m with
  | leaf k n => simp only [laidT, TD.size]; omega
  | two k a b => simp only [laidT, TD.size]; omega
  | three k c a w ihc iha ihw =>
    by_cases hk : k = 13
    · subst hk
      simp only [laidT]
      repeat' split
      all_goals (try simp only [TD.size] at *); omega
    · have e : laidT (.three k c a w) u v = .three 13 (.three k c a w) u v := by
        unfold laidT
        split
        · rename_i h; cases h; exact absurd rfl hk
        · rfl
      rw [e]
      simp only [TD.size]
      omega

theorem writtenT_size (m u v : TD) : (writtenT m u v).size ≤ 1 + m.size + u.size + v.size := by
  have h1 := leftT_size m u
  have h2 := laidT_size (leftT m u) u v
  unfold writtenT
  split <;> omega

/-- Behind k operations a term has at most so many parts. -/
def most : Nat → Nat
  | 0 => 1
  | k + 1 => 1 + 3 * most k

theorem most_pos (k : Nat) : 1 ≤ most k := by cases k <;> simp only [most] <;> omega

theorem behindT_size (regs slots : Int) (names : List Int) (ops : List OpD) : ∀ (k : Nat) (place : Int), (behindT regs slots names ops k place).size ≤ most k := by
  intro k
  induction k with
  | zero =>
    intro place
    simp only [behindT, firstT, most]
    repeat' split
    all_goals simp only [TD.size]; omega
  | succ k ih =>
    intro place
    have hp := most_pos k
    simp only [behindT, most]
    repeat' split
    · have := ih place; omega
    · simp only [tnum, TD.size]; omega
    · have := ih (ops.getD k oz).b; omega
    · have := ih (regs + (ops.getD k oz).b); omega
    · have h1 := readT_size (behindT regs slots names ops k (regs + slots)) (behindT regs slots names ops k (ops.getD k oz).b)
      have := ih (regs + slots)
      have := ih (ops.getD k oz).b
      omega
    · have h1 := writtenT_size (behindT regs slots names ops k (regs + slots)) (behindT regs slots names ops k (ops.getD k oz).a) (behindT regs slots names ops k (ops.getD k oz).b)
      have := ih (regs + slots)
      have := ih (ops.getD k oz).a
      have := ih (ops.getD k oz).b
      omega
    · have h1 := madeT_size (ops.getD k oz).kind (behindT regs slots names ops k (ops.getD k oz).b) (behindT regs slots names ops k (ops.getD k oz).c)
      have := ih (ops.getD k oz).b
      have := ih (ops.getD k oz).c
      omega

theorem most_mono {j k : Nat} (h : j ≤ k) : most j ≤ most k := by
  induction k with
  | zero => obtain rfl : j = 0 := (by omega); exact Nat.le_refl _
  | succ k ih =>
    by_cases e : j = k + 1
    · subst e; exact Nat.le_refl _
    · have := ih (by omega)
      simp only [most]
      omega

end Go.Proofs.YtblhmeidbjigaaaGreatDoor

/- Terms in memory: trees of blocks, which nobody writes into; strconv.Itoa and its table. -/
set_option linter.unusedSimpArgs false
set_option linter.unusedVariables false
namespace Go.Proofs
open Go.Shelf
shelf_lay LaysM.n171 Nm 171 at Tryz as Tryz.laysItoa
end Go.Proofs
namespace Go.Proofs.YtblhmeidbjigaaaGreatDoor
open Go.RowKit Go.Shelf

/-- The library's table of the powers of ten lies as its initialiser lays it. -/
def TabW (w : World) : Prop := Lib.TabIs Tryz.prog w "internal/strconv.uint64pow10" .u64 Lib.pow10Tab

theorem tabGlobal : ∃ g, Tryz.prog.globalNamed "internal/strconv.uint64pow10" = some g :=
  Option.isSome_iff_exists.1 (show (Tryz.prog.globalNamed "internal/strconv.uint64pow10").isSome = true by kernel_rfl)

theorem TabW.keep {w w' : World} (h : TabW w) (hb : Below w.heap.size w w') : TabW w' :=
  let ⟨_, hg⟩ := tabGlobal
  Joins.tab_stays hg h hb (Nat.le_refl _)

theorem below_grown_it (w : World) (q : Nat) (os : Array Obj) : Below w.heap.size w (Sort.grow (w.drewN q) os) :=
  ⟨rfl, rfl, rfl, by first | (simp [Sort.grow]; done) | (simp [Sort.grow]; omega), fun i hi => by
    show ((w.drewN q).heap ++ os)[i]? = _
    rw [Array.getElem?_append_left (by show i < w.heap.size; omega)]
    rfl⟩

theorem itoa_any (n : Int) (hn : W64 n) (w : World) (ht : TabW w) :
    Calls Tryz.prog 41 #[.int .i64 n] w fun e w' => e = .returned (.string (str (Lib.itoa n))) ∧ Below w.heap.size w w' :=
  (Any.strconv_Itoa Tryz.laysItoa n hn.1 hn.2 w ht).mono fun e w' ⟨he, k, os, hw⟩ => ⟨he, by
    rw [hw]
    exact below_grown_it _ _ _⟩

/-- A term's tree at block g. -/
def TreeAt (w : World) : TD → Nat → Prop
  | .leaf k n, g => Row w g 131 [.int .i64 k, .int .i64 n, .pointer none, .pointer none, .pointer none]
  | .two k a b, g => ∃ ga gb, Row w g 131 [.int .i64 k, .int .i64 0, .pointer (some ⟨ga, 0, none⟩), .pointer (some ⟨gb, 0, none⟩), .pointer none] ∧ TreeAt w a ga ∧ TreeAt w b gb
  | .three k a b c, g => ∃ ga gb gc, Row w g 131 [.int .i64 k, .int .i64 0, .pointer (some ⟨ga, 0, none⟩), .pointer (some ⟨gb, 0, none⟩), .pointer (some ⟨gc, 0, none⟩)] ∧ TreeAt w a ga ∧ TreeAt w b gb ∧ TreeAt w c gc

theorem TreeAt.keep {w w' : World} {t : TD} {g : Nat} (h : TreeAt w t g) (hb : Below w.heap.size w w') : TreeAt w' t g := by
  induction t generalizing g with
  | leaf k n => exact Row.keep h hb
  | two k a b iha ihb => obtain ⟨ga, gb, h1, h2, h3⟩ := h; exact ⟨ga, gb, h1.keep hb, iha h2, ihb h3⟩
  | three k a b c iha ihb ihc => obtain ⟨ga, gb, gc, h1, h2, h3, h4⟩ := h; exact ⟨ga, gb, gc, h1.keep hb, iha h2, ihb h3, ihc h4⟩

theorem TreeAt.lt {w : World} {t : TD} {g : Nat} (h : TreeAt w t g) : g < w.heap.size := by
  cases t with
  | leaf k n => exact Row.lt h
  | two k a b => obtain ⟨ga, gb, h1, _⟩ := h; exact h1.lt
  | three k a b c => obtain ⟨ga, gb, gc, h1, _⟩ := h; exact h1.lt

theorem TreeAt.drewN {w : World} {t : TD} {g : Nat} (h : TreeAt w t g) (n : Nat) : TreeAt (w.drewN n) t g := h.keep (below_drewN (Below.refl _ _) n)

/-- A term's number: of what is no leaf 0. -/
def TD.num : TD → Int
  | .leaf _ n => n
  | _ => 0

theorem TreeAt.kindc {w : World} {t : TD} {g : Nat} (h : TreeAt w t g) : w.cell? ⟨g, 0, none⟩ = some (.int .i64 t.kind) := by
  cases t with
  | leaf k n => exact Row.cell (i := 0) h rfl
  | two k a b => obtain ⟨ga, gb, h1, _⟩ := h; exact h1.cell (i := 0) rfl
  | three k a b c => obtain ⟨ga, gb, gc, h1, _⟩ := h; exact h1.cell (i := 0) rfl

theorem TreeAt.numc {w : World} {t : TD} {g : Nat} (h : TreeAt w t g) : w.cell? ⟨g, 1, none⟩ = some (.int .i64 t.num) := by
  cases t with
  | leaf k n => exact Row.cell (i := 1) h rfl
  | two k a b => obtain ⟨ga, gb, h1, _⟩ := h; exact h1.cell (i := 1) rfl
  | three k a b c => obtain ⟨ga, gb, gc, h1, _⟩ := h; exact h1.cell (i := 1) rfl

theorem isNum_kind {t : TD} (h : t.fine) : t.kind = 100 ↔ t.isNum = some t.num := by
  cases t with
  | leaf k n => simp [TD.kind, TD.isNum, TD.num]
  | two k a b => obtain ⟨h1, h2, _⟩ := h; simp only [TD.kind, TD.isNum]; constructor; omega; intro e; cases e
  | three k a b c => obtain ⟨h1, _⟩ := h; simp only [TD.kind, TD.isNum]; constructor; omega; intro e; cases e

theorem isNum_none {t : TD} (h : t.fine) : t.kind ≠ 100 ↔ t.isNum = none := by
  cases t with
  | leaf k n => simp [TD.kind, TD.isNum]
  | two k a b => obtain ⟨h1, h2, _⟩ := h; simp only [TD.kind, TD.isNum]; constructor; intro _; trivial; intro _; omega
  | three k a b c => obtain ⟨h1, _⟩ := h; simp only [TD.kind, TD.isNum]; constructor; intro _; trivial; intro _; omega

end Go.Proofs.YtblhmeidbjigaaaGreatDoor
