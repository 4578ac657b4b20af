/- The law on hints: reading. -/
import Derived.Test.YtdjdjkgoelbbdaaLawJToLawM
set_option linter.unusedSimpArgs false
set_option linter.unusedVariables false
namespace Go.Proofs.Ytdjdjkgoelbbdaa
open Go.RowKit

theorem OwnHint.apartFrom {S : Nat → Prop} {w w' : World} {base : Nat} {v : Value} {hv : List (PingD × Value)} (h : OwnHint w base v hv) (hk : Keep S w w') (hS : ∀ g, S g → g < base) : OwnHint w' base v hv := by
  have key : ∀ (e : TypeId) (sz : Nat) (u : Value) (n : Nat) (xs : List Value), w.ownsRow base e sz u n xs → w'.ownsRow base e sz u n xs := by
    intro e sz u n xs hu
    refine owns_same hu fun g hg => hk.block g (hu.lt g hg).2 (fun hs => ?_)
    have := hS g hs
    have := (hu.lt g hg).1
    omega
  exact ⟨key _ _ _ _ _ h.row, fun x hx => key _ _ _ _ _ (h.each x hx), h.apart⟩

theorem OwnHint.apartFrom' {w w' : World} {base : Nat} {v : Value} {hv : List (PingD × Value)} (h : OwnHint w base v hv) (hb : Below w.heap.size w w') : OwnHint w' base v hv := h.below hb (Nat.le_refl _)

/-- The blocks of a hint. -/
def hblk (v : Value) (hv : List (PingD × Value)) (g : Nat) : Prop := v.ownBlock = some g ∨ ∃ x ∈ hv, x.2.ownBlock = some g

theorem hblk_lt {w : World} {base : Nat} {v : Value} {hv : List (PingD × Value)} (h : OwnHint w base v hv) : ∀ g, hblk v hv g → base ≤ g ∧ g < w.heap.size := by
  rintro g (hg | ⟨x, hx, hg⟩)
  · exact h.row.lt g hg
  · exact (h.each x hx).lt g hg

theorem good_small {hv : List (PingD × Value)} (hg : goodHint (hdat hv) = true) : hv.length ≤ 1000 ∧ ∀ x ∈ hv, x.1.pairs.length ≤ 1000 := by
  have h1 := goodHint_len hg
  rw [hdat_length] at h1
  refine ⟨by omega, fun x hx => ?_⟩
  have := goodHint_ping hg x.1 (List.mem_map.2 ⟨x, hx, rfl⟩)
  simp [goodPing] at this
  omega

set_option maxRecDepth 100000 in
set_option maxHeartbeats 4000000 in
theorem unhinted_any (s : ByteArray) (k : Int) (w : World) (hs : s.size ≤ maxLen) (hk : 0 ≤ k ∧ k ≤ 4611686018427387) :
    Calls Try.prog 13 #[.string s, .int .i64 k] w fun e w' => (∃ v hv, e = .returned (.tuple #[.agg #[v], .bool true]) ∧ OwnHint w' w.heap.size v hv) ∧ Below w.heap.size w w' := by
  obtain ⟨Post, hPost⟩ : ∃ Post : Ending → World → Prop, Post = fun e w' => (∃ v hv, e = .returned (.tuple #[.agg #[v], .bool true]) ∧ OwnHint w' w.heap.size v hv) ∧ Below w.heap.size w w' := ⟨_, rfl⟩
  rw [← hPost]
  have HP : Hid (∀ v hv w', OwnHint w' w.heap.size v hv → Below w.heap.size w w' → Post (.returned (.tuple #[.agg #[v], .bool true])) w') := by
    intro v hv w' h1 h2
    rw [hPost]
    exact ⟨⟨v, hv, rfl, h1⟩, h2⟩
  clear hPost
  have hc := tDecodeHint_any s (w.alloc (.cells #[.slice none 0 0] 31)) hs
  go_enter Try.func13, Try.ntmps13
  go_wp2_with fail
  refine hc.mono ?_
  clear hc
  rintro e w1 ⟨hor, hb1⟩
  have hb1' : Below (w.heap.size + 1) (w.alloc (.cells #[.slice none 0 0] 31)) w1 := by simpa using hb1
  have hz1 := hb1'.size
  simp at hz1
  have r0 : w1.cell? ⟨w.heap.size, 0, none⟩ = some (.slice none 0 0) := (hb1'.cell (by simp)).trans (by simp)
  have rf : w1.frozen? ⟨w.heap.size, 0, none⟩ = false := (hb1'.frozen (by simp)).trans (by simp)
  have hb01 := Below.under hb1'
  have hzl : w.heap.size < w1.heap.size := by omega
  clear hb1
  rcases hor with ⟨v1, hv1, rfl, own1, g1, ht1⟩ | ⟨hno1, rfl⟩
  · obtain ⟨a1, c1, rfl⟩ := owns_slice own1.row
    have own1 : OwnHint w1 (w.heap.size + 1) (.slice a1 hv1.length c1) hv1 := by simpa using own1
    have good1 := good_small g1
    have hc := rDecodeHint_any s (w1.alloc (.cells #[.slice a1 hv1.length c1] 31)) hs
    go_wp2_with fail
    refine hc.mono ?_
    clear hc
    rintro e w2 ⟨hor, hb2⟩
    have hb2' : Below (w1.heap.size + 1) (w1.alloc (.cells #[.slice a1 hv1.length c1] 31)) w2 := by simpa using hb2
    clear hb2
    rcases hor with ⟨v2, hv2, rfl, own2, g2, ht2⟩ | ⟨hno2, rfl⟩
    case inr => exact absurd ht1 (hno2 _ g1)
    obtain ⟨a2, c2, rfl⟩ := owns_slice own2.row
    have own2 : OwnHint w2 (w1.heap.size + 1) (.slice a2 hv2.length c2) hv2 := by simpa using own2
    have hsame : hdat hv1 = hdat hv2 := hint_one g1 g2 (ht1.trans ht2.symm)
    clear ht1 ht2 g1 g2
    have hz2 := hb2'.size
    simp at hz2
    have x1 : w2.cell? ⟨w1.heap.size, 0, none⟩ = some (.slice a1 hv1.length c1) := (hb2'.cell (by simp)).trans (by simp)
    have hb12 := Below.under hb2'
    have own1' := own1.apartFrom' hb12
    have hsm1 := good1
    have rr0 := cell_keep hb12 r0
    have rrf := (hb12.frozen (p := ⟨w.heap.size, 0, none⟩) hzl).trans rf
    have hzl2 : w1.heap.size < w2.heap.size := by omega
    have hzl3 : w.heap.size < w2.heap.size := by omega
    have rd1 := (own1'.alloc (.cells #[(.slice a2 hv2.length c2)] 31)).rd
    have rd2 := (own2.alloc (.cells #[(.slice a2 hv2.length c2)] 31)).rd
    rw [← hsame] at rd2
    go_wp2_with fail
    refine (sameHint_any _ _ _ _ rd1 rd2).mono ?_
    rintro e w3 ⟨rfl, hb3⟩
    have hb3' : Below (w2.heap.size + 1) (w2.alloc (.cells #[(.slice a2 hv2.length c2)] 31)) w3 := by simpa using hb3
    clear hb3 rd1 rd2
    have hb23 := Below.under hb3'
    have hz3 := hb3'.size
    simp at hz3
    have y1 := cell_keep hb23 x1
    have y2 : w3.cell? ⟨w2.heap.size, 0, none⟩ = some (.slice a2 hv2.length c2) := (hb3'.cell (by simp)).trans (by simp)
    have y0 := cell_keep hb23 rr0
    have yf := (hb23.frozen (p := ⟨w.heap.size, 0, none⟩) hzl3).trans rrf
    have o31 := own1'.apartFrom' hb23
    have o32 := own2.apartFrom' hb23
    have hS : ∀ g, hblk (.slice a1 hv1.length c1) hv1 g → w.heap.size + 1 ≤ g ∧ g < w1.heap.size := fun g hg => by
      have := hblk_lt own1 g hg
      exact this
    have hSv : ∀ g, (Value.slice a1 hv1.length c1).ownBlock = some g → hblk (.slice a1 hv1.length c1) hv1 g := fun g hg => .inl hg
    have hSx : ∀ x ∈ hv1, ∀ g, x.2.ownBlock = some g → hblk (.slice a1 hv1.length c1) hv1 g := fun x hx g hg => .inr ⟨x, hx, hg⟩
    have hn1 : ¬ hblk (.slice a1 hv1.length c1) hv1 w1.heap.size := fun h => by have := hS _ h; omega
    have hn2 : ¬ hblk (.slice a1 hv1.length c1) hv1 w2.heap.size := fun h => by have := hS _ h; omega
    have hn0 : ¬ hblk (.slice a1 hv1.length c1) hv1 w.heap.size := fun h => by have := hS _ h; omega
    have hbh := behindHint_any (.slice a1 hv1.length c1) hv1 w3 (w.heap.size + 1) o31 (by omega) hsm1.1 hsm1.2 (hblk (.slice a1 hv1.length c1) hv1) hSv hSx
    go_wp2_with fail
    refine hbh.mono ?_
    clear hbh
    rintro e w4 ⟨rfl, o41, hk4⟩
    have u1 := hk4.cell hn1 y1
    have u2 := hk4.cell hn2 y2
    have u0 := hk4.cell hn0 y0
    have uf : w4.frozen? ⟨w.heap.size, 0, none⟩ = false := (World.frozen?_of_block (w := w3) (hk4.block w.heap.size (by omega) hn0)).trans yf
    have o42 := o32.apartFrom hk4 (fun g hg => by have := hS g hg; omega)
    have hz4 := hk4.size
    have rd1 := o41.rd
    have rd2 := o42.rd
    rw [← hsame] at rd2
    go_wp2_with fail
    refine (sameHint_any _ _ _ _ rd1 rd2).mono ?_
    rintro e w5 ⟨rfl, hb5⟩
    have v1 := cell_keep hb5 u1
    have v0 := cell_keep hb5 u0
    have vf := (hb5.frozen (p := ⟨w.heap.size, 0, none⟩) (by show w.heap.size < w4.heap.size; omega)).trans uf
    have o51 := o41.apartFrom' hb5
    have hz5 := hb5.size
    have hoh := ownHint_any (.slice a1 hv1.length c1) hv1 w5 (w.heap.size + 1) (77 + 100 * k) o51 (by omega) hsm1.1 hsm1.2 (by omega) (hblk (.slice a1 hv1.length c1) hv1) hSv hSx
    clear rd1 rd2
    go_wp2_with fail
    refine hoh.mono ?_
    clear hoh
    rintro e w6 ⟨rfl, ⟨hv6, o61⟩, hk6⟩
    have t1 := hk6.cell hn1 v1
    have t0 := hk6.cell hn0 v0
    have tf : w6.frozen? ⟨w.heap.size, 0, none⟩ = false := (World.frozen?_of_block (w := w5) (hk6.block w.heap.size (by omega) hn0)).trans vf
    have B3 := hb01.trans (hb12.mono (by omega)) |>.trans (hb23.mono (by omega))
    have B4 := B3.trans ((hk4.toBelow (B := w.heap.size) (by omega) (fun g hg => by have := hS g hg; omega)))
    have B6 := (B4.trans (hb5.mono (by omega))).trans ((hk6.toBelow (B := w.heap.size) (by omega) (fun g hg => by have := hS g hg; omega)))
    have hfin := HP.out (.slice a1 hv1.length c1) hv6 (w6.setCell ⟨w.heap.size, 0, none⟩ (.slice a1 hv1.length c1)) ((o61.set (by simp) _).base (by omega)) (B6.setCell (by simp) _)
    clear hk6 hk4 o41 o42 o51 o61 o31 o32 own1 own2 own1' B3 B4 B6 HP hSv hSx
    go_wp2
    exact bodyPost_ret (v := .tuple #[.agg #[(.slice a1 hv1.length c1)], .bool true]) (by simp [results, Try.results13, go_sem, t0]) rfl hfin
  · have own1 : OwnHint w1 (w.heap.size + 1) (.slice none 0 0) [] := ownHint_nil _ _
    have good1 : ([] : List (PingD × Value)).length ≤ 1000 ∧ ∀ x ∈ ([] : List (PingD × Value)), x.1.pairs.length ≤ 1000 := ⟨by simp, fun x hx => by cases hx⟩
    have hc := rDecodeHint_any s (w1.alloc (.cells #[.slice none 0 0] 31)) hs
    go_wp2_with fail
    refine hc.mono ?_
    clear hc
    rintro e w2 ⟨hor, hb2⟩
    have hb2' : Below (w1.heap.size + 1) (w1.alloc (.cells #[.slice none 0 0] 31)) w2 := by simpa using hb2
    clear hb2
    rcases hor with ⟨v2, hv2, rfl, own2, g2, ht2⟩ | ⟨hno2, rfl⟩
    case inl => exact absurd ht2 (hno1 _ g2)
    have own2 : OwnHint w2 (w1.heap.size + 1) (.slice none 0 0) [] := ownHint_nil _ _
    have hsame : hdat [] = hdat [] := rfl
    clear hno1 hno2
    have hz2 := hb2'.size
    simp at hz2
    have x1 : w2.cell? ⟨w1.heap.size, 0, none⟩ = some (.slice none 0 0) := (hb2'.cell (by simp)).trans (by simp)
    have hb12 := Below.under hb2'
    have own1' := own1.apartFrom' hb12
    have hsm1 := good1
    have rr0 := cell_keep hb12 r0
    have rrf := (hb12.frozen (p := ⟨w.heap.size, 0, none⟩) hzl).trans rf
    have hzl2 : w1.heap.size < w2.heap.size := by omega
    have hzl3 : w.heap.size < w2.heap.size := by omega
    have rd1 := (own1'.alloc (.cells #[(.slice none 0 0)] 31)).rd
    have rd2 := (own2.alloc (.cells #[(.slice none 0 0)] 31)).rd
    go_wp2_with fail
    refine (sameHint_any _ _ _ _ rd1 rd2).mono ?_
    rintro e w3 ⟨rfl, hb3⟩
    have hb3' : Below (w2.heap.size + 1) (w2.alloc (.cells #[(.slice none 0 0)] 31)) w3 := by simpa using hb3
    clear hb3 rd1 rd2
    have hb23 := Below.under hb3'
    have hz3 := hb3'.size
    simp at hz3
    have y1 := cell_keep hb23 x1
    have y2 : w3.cell? ⟨w2.heap.size, 0, none⟩ = some (.slice none 0 0) := (hb3'.cell (by simp)).trans (by simp)
    have y0 := cell_keep hb23 rr0
    have yf := (hb23.frozen (p := ⟨w.heap.size, 0, none⟩) hzl3).trans rrf
    have o31 := own1'.apartFrom' hb23
    have o32 := own2.apartFrom' hb23
    have hS : ∀ g, hblk (.slice none 0 0) [] g → w.heap.size + 1 ≤ g ∧ g < w1.heap.size := fun g hg => by
      have := hblk_lt own1 g hg
      exact this
    have hSv : ∀ g, (Value.slice none 0 0).ownBlock = some g → hblk (.slice none 0 0) [] g := fun g hg => .inl hg
    have hSx : ∀ x ∈ ([] : List (PingD × Value)), ∀ g, x.2.ownBlock = some g → hblk (.slice none 0 0) [] g := fun x hx g hg => .inr ⟨x, hx, hg⟩
    have hn1 : ¬ hblk (.slice none 0 0) [] w1.heap.size := fun h => by have := hS _ h; omega
    have hn2 : ¬ hblk (.slice none 0 0) [] w2.heap.size := fun h => by have := hS _ h; omega
    have hn0 : ¬ hblk (.slice none 0 0) [] w.heap.size := fun h => by have := hS _ h; omega
    have hbh := behindHint_any (.slice none 0 0) [] w3 (w.heap.size + 1) o31 (by omega) hsm1.1 hsm1.2 (hblk (.slice none 0 0) []) hSv hSx
    go_wp2_with fail
    refine hbh.mono ?_
    clear hbh
    rintro e w4 ⟨rfl, o41, hk4⟩
    have u1 := hk4.cell hn1 y1
    have u2 := hk4.cell hn2 y2
    have u0 := hk4.cell hn0 y0
    have uf : w4.frozen? ⟨w.heap.size, 0, none⟩ = false := (World.frozen?_of_block (w := w3) (hk4.block w.heap.size (by omega) hn0)).trans yf
    have o42 := o32.apartFrom hk4 (fun g hg => by have := hS g hg; omega)
    have hz4 := hk4.size
    have rd1 := o41.rd
    have rd2 := o42.rd
    go_wp2_with fail
    refine (sameHint_any _ _ _ _ rd1 rd2).mono ?_
    rintro e w5 ⟨rfl, hb5⟩
    have v1 := cell_keep hb5 u1
    have v0 := cell_keep hb5 u0
    have vf := (hb5.frozen (p := ⟨w.heap.size, 0, none⟩) (by show w.heap.size < w4.heap.size; omega)).trans uf
    have o51 := o41.apartFrom' hb5
    have hz5 := hb5.size
    have hoh := ownHint_any (.slice none 0 0) [] w5 (w.heap.size + 1) (77 + 100 * k) o51 (by omega) hsm1.1 hsm1.2 (by omega) (hblk (.slice none 0 0) []) hSv hSx
    clear rd1 rd2
    go_wp2_with fail
    refine hoh.mono ?_
    clear hoh
    rintro e w6 ⟨rfl, ⟨hv6, o61⟩, hk6⟩
    have t1 := hk6.cell hn1 v1
    have t0 := hk6.cell hn0 v0
    have tf : w6.frozen? ⟨w.heap.size, 0, none⟩ = false := (World.frozen?_of_block (w := w5) (hk6.block w.heap.size (by omega) hn0)).trans vf
    have B3 := hb01.trans (hb12.mono (by omega)) |>.trans (hb23.mono (by omega))
    have B4 := B3.trans ((hk4.toBelow (B := w.heap.size) (by omega) (fun g hg => by have := hS g hg; omega)))
    have B6 := (B4.trans (hb5.mono (by omega))).trans ((hk6.toBelow (B := w.heap.size) (by omega) (fun g hg => by have := hS g hg; omega)))
    have hfin := HP.out (.slice none 0 0) hv6 (w6.setCell ⟨w.heap.size, 0, none⟩ (.slice none 0 0)) ((o61.set (by simp) _).base (by omega)) (B6.setCell (by simp) _)
    clear hk6 hk4 o41 o42 o51 o61 o31 o32 own1 own2 own1' B3 B4 B6 HP hSv hSx
    go_wp2
    exact bodyPost_ret (v := .tuple #[.agg #[(.slice none 0 0)], .bool true]) (by simp [results, Try.results13, go_sem, t0]) rfl hfin

end Go.Proofs.Ytdjdjkgoelbbdaa

/- Programs as plain data; how they lie in memory. -/
set_option linter.unusedSimpArgs false
set_option linter.unusedVariables false
namespace Go.Proofs.Ytdjdjkgoelbbdaa
open Go.RowKit

structure OpD where
  kind : Int
  a : Int
  b : Int
  c : Int

structure EndD where
  kind : Int
  r : Int
  x : Int
  y : Int

structure BlockD where
  ops : List OpD
  fin : EndD

structure ProgD where
  args : Int
  regs : Int
  data : Int
  slots : Int
  blocks : List BlockD

def oz : OpD := ⟨0, 0, 0, 0⟩
def ez : EndD := ⟨0, 0, 0, 0⟩
def bz : BlockD := ⟨[], ez⟩

def okind (l : List OpD) (k : Nat) : Int := (l.getD k oz).kind
def oa (l : List OpD) (k : Nat) : Int := (l.getD k oz).a
def ob (l : List OpD) (k : Nat) : Int := (l.getD k oz).b
def oc (l : List OpD) (k : Nat) : Int := (l.getD k oz).c
def bops (l : List BlockD) (k : Nat) : List OpD := (l.getD k bz).ops
def bfin (l : List BlockD) (k : Nat) : EndD := (l.getD k bz).fin
def bek (l : List BlockD) (k : Nat) : Int := (bfin l k).kind
def ber (l : List BlockD) (k : Nat) : Int := (bfin l k).r
def bex (l : List BlockD) (k : Nat) : Int := (bfin l k).x
def bey (l : List BlockD) (k : Nat) : Int := (bfin l k).y

/-! ### Well made -/

def opGood (regs slots : Int) (o : OpD) : Bool :=
  if o.kind = 1 then below o.a regs && below o.b 256 && below o.c 256
  else if 3 ≤ o.kind ∧ o.kind ≤ 11 then below o.a regs && below o.b regs && below o.c regs
  else if o.kind = 2 ∨ o.kind = 12 ∨ o.kind = 13 then below o.a regs && below o.b regs && decide (o.c = 0)
  else if o.kind = 14 then below o.a slots && below o.b regs && decide (o.c = 0)
  else if o.kind = 15 then below o.a regs && below o.b slots && decide (o.c = 0)
  else false

def endGood (regs n : Int) (e : EndD) : Bool :=
  if e.kind = 1 then decide (e.r = 0) && below e.x n && decide (e.y = 0)
  else if e.kind = 2 then below e.r regs && below e.x n && below e.y n
  else if e.kind = 3 then below e.r regs && decide (e.x = 0) && decide (e.y = 0)
  else false

def opsGood (regs slots : Int) (l : List OpD) : Bool := l.all (opGood regs slots)

def blockGood (regs slots n : Int) (b : BlockD) : Bool := decide (b.ops.length ≤ 12) && opsGood regs slots b.ops && endGood regs n b.fin

def blocksGood (regs slots n : Int) (l : List BlockD) : Bool := l.all (blockGood regs slots n)

def progGood (p : ProgD) : Bool :=
  decide (1 ≤ p.regs ∧ p.regs ≤ 8) && decide (0 ≤ p.args ∧ p.args ≤ p.regs) && decide (0 ≤ p.data ∧ p.data ≤ 8) && decide (0 ≤ p.slots ∧ p.slots ≤ 8) && decide (1 ≤ p.blocks.length ∧ p.blocks.length ≤ 6) &&
    blocksGood p.regs p.slots p.blocks.length p.blocks

def ogFrom (regs slots : Int) (l : List OpD) (k : Nat) : Bool := opsGood regs slots (l.drop k)
def bgFrom (regs slots n : Int) (l : List BlockD) (k : Nat) : Bool := blocksGood regs slots n (l.drop k)

theorem ogFrom_end {regs slots : Int} {l : List OpD} {k : Nat} (h : l.length ≤ k) : ogFrom regs slots l k = true := by
  unfold ogFrom; rw [List.drop_of_length_le h]; rfl
theorem ogFrom_step {regs slots : Int} {l : List OpD} {k : Nat} (h : k < l.length) : ogFrom regs slots l k = (opGood regs slots ⟨okind l k, oa l k, ob l k, oc l k⟩ && ogFrom regs slots l (k + 1)) := by
  unfold ogFrom; rw [drop_getD l oz k h]; rfl
theorem bgFrom_end {regs slots n : Int} {l : List BlockD} {k : Nat} (h : l.length ≤ k) : bgFrom regs slots n l k = true := by
  unfold bgFrom; rw [List.drop_of_length_le h]; rfl
theorem bgFrom_step {regs slots n : Int} {l : List BlockD} {k : Nat} (h : k < l.length) : bgFrom regs slots n l k = (blockGood regs slots n ⟨bops l k, ⟨bek l k, ber l k, bex l k, bey l k⟩⟩ && bgFrom regs slots n l (k + 1)) := by
  unfold bgFrom; rw [drop_getD l bz k h]; rfl

/-! ### In memory -/

def RdOps (w : World) (v : Value) (l : List OpD) : Prop :=
  ∃ ao cap, v = .slice ao l.length cap ∧ l.length ≤ 9223372036854775807 ∧ ∀ i, i < l.length → ∃ b off, ao = some ⟨b, off, none⟩ ∧
    w.cell? ⟨b, off + i * 4, none⟩ = some (.int .i64 (okind l i)) ∧ w.cell? ⟨b, off + i * 4 + 1, none⟩ = some (.int .i64 (oa l i)) ∧ w.cell? ⟨b, off + i * 4 + 2, none⟩ = some (.int .i64 (ob l i)) ∧ w.cell? ⟨b, off + i * 4 + 3, none⟩ = some (.int .i64 (oc l i))

def RdBlocks (w : World) (v : Value) (l : List BlockD) : Prop :=
  ∃ ao cap, v = .slice ao l.length cap ∧ l.length ≤ 9223372036854775807 ∧ ∀ i, i < l.length → ∃ b off sv, ao = some ⟨b, off, none⟩ ∧
    w.cell? ⟨b, off + i * 5, none⟩ = some sv ∧ w.cell? ⟨b, off + i * 5 + 1, none⟩ = some (.int .i64 (bek l i)) ∧ w.cell? ⟨b, off + i * 5 + 2, none⟩ = some (.int .i64 (ber l i)) ∧ w.cell? ⟨b, off + i * 5 + 3, none⟩ = some (.int .i64 (bex l i)) ∧ w.cell? ⟨b, off + i * 5 + 4, none⟩ = some (.int .i64 (bey l i)) ∧
    RdOps w sv (bops l i)

theorem RdOps.keep {w w' : World} {v : Value} {l : List OpD} (h : RdOps w v l) (hb : Below w.heap.size w w') : RdOps w' v l := by
  obtain ⟨ao, cap, rfl, hl, hc⟩ := h
  exact ⟨ao, cap, rfl, hl, fun i hi => let ⟨b, off, e, h1, h2, h3, h4⟩ := hc i hi; ⟨b, off, e, cell_keep hb h1, cell_keep hb h2, cell_keep hb h3, cell_keep hb h4⟩⟩

theorem RdBlocks.keep {w w' : World} {v : Value} {l : List BlockD} (h : RdBlocks w v l) (hb : Below w.heap.size w w') : RdBlocks w' v l := by
  obtain ⟨ao, cap, rfl, hl, hc⟩ := h
  exact ⟨ao, cap, rfl, hl, fun i hi => let ⟨b, off, sv, e, h1, h2, h3, h4, h5, h6⟩ := hc i hi; ⟨b, off, sv, e, cell_keep hb h1, cell_keep hb h2, cell_keep hb h3, cell_keep hb h4, cell_keep hb h5, h6.keep hb⟩⟩

/-- A program as a value. -/
def progV (p : ProgD) (v : Value) : Value := .agg #[.int .i64 p.args, .int .i64 p.regs, .int .i64 p.data, .int .i64 p.slots, v]

/-! ### Texts -/

def opText (o : OpD) : List UInt8 := [byt o.kind, byt o.a, byt o.b, byt o.c]
def opsText (l : List OpD) : List UInt8 := l.flatMap opText
def endText (e : EndD) : List UInt8 := [byt e.kind, byt e.r, byt e.x, byt e.y]
def blockText (b : BlockD) : List UInt8 := [byt b.ops.length] ++ opsText b.ops ++ endText b.fin
def headText (p : ProgD) : List UInt8 := [84, 87, byt p.args, byt p.regs, byt p.data, byt p.slots, byt p.blocks.length]
def progText (p : ProgD) : List UInt8 := headText p ++ p.blocks.flatMap blockText

theorem opsText_length (l : List OpD) : (opsText l).length = 4 * l.length := by
  induction l with
  | nil => rfl
  | cons p r ih => simp only [opsText, List.flatMap_cons, List.length_append, List.length_cons, opText, List.length_nil] at *; omega

theorem blockText_length (b : BlockD) : (blockText b).length = 5 + 4 * b.ops.length := by
  simp [blockText, opsText_length, endText]; omega

/-- A block's text as far as its first k operations. -/
def blockTo (l : List OpD) (k : Nat) : ByteArray := str ([byt l.length] ++ opsText (l.take k))

theorem blockTo_step {l : List OpD} {k : Nat} (h : k < l.length) : blockTo l (k + 1) = blockTo l k ++ ⟨#[byt (okind l k), byt (oa l k), byt (ob l k), byt (oc l k)]⟩ := by
  show _ = str _ ++ str [_, _, _, _]
  rw [str_append]
  simp [blockTo, opsText, take_getD l oz k h, okind, oa, ob, oc, opText]

theorem blockTo_end {l : List OpD} {k : Nat} (e : EndD) (h : l.length ≤ k) : blockTo l k ++ ⟨#[byt e.kind, byt e.r, byt e.x, byt e.y]⟩ = str (blockText ⟨l, e⟩) := by
  show str _ ++ str [_, _, _, _] = _
  rw [str_append]
  simp [blockText, endText, List.take_of_length_le h]

theorem blockTo_size (l : List OpD) (k : Nat) (h : k ≤ l.length) : (blockTo l k).size = 1 + 4 * k := by
  simp [blockTo, str, ByteArray.size, opsText_length, List.length_take, Nat.min_eq_left h]
  omega

/-- A program's text as far as its first k blocks. -/
def progTo (p : ProgD) (k : Nat) : ByteArray := str (headText p ++ (p.blocks.take k).flatMap blockText)

theorem progTo_step {p : ProgD} {k : Nat} (h : k < p.blocks.length) : progTo p (k + 1) = progTo p k ++ str (blockText ⟨bops p.blocks k, ⟨bek p.blocks k, ber p.blocks k, bex p.blocks k, bey p.blocks k⟩⟩) := by
  unfold progTo
  rw [str_append, take_getD p.blocks bz k h, List.flatMap_append, List.append_assoc]
  simp [bops, bek, ber, bex, bey, bfin]

theorem progTo_end {p : ProgD} {k : Nat} (h : p.blocks.length ≤ k) : progTo p k = str (progText p) := by
  simp [progTo, progText, List.take_of_length_le h]

theorem progGood_len {p : ProgD} (hg : progGood p = true) : 1 ≤ p.blocks.length ∧ p.blocks.length ≤ 6 := by
  simp [progGood] at hg; omega

theorem progGood_block {p : ProgD} (hg : progGood p = true) (x : BlockD) (hx : x ∈ p.blocks) : blockGood p.regs p.slots p.blocks.length x = true := by
  simp [progGood, blocksGood] at hg; exact hg.2 x hx

theorem progGood_ops {p : ProgD} (hg : progGood p = true) {k : Nat} (hk : k < p.blocks.length) : (bops p.blocks k).length ≤ 12 := by
  have := progGood_block hg (p.blocks.getD k bz) (getD_mem' hk)
  simp [blockGood] at this
  exact this.1.1

theorem bflat_le {l : List BlockD} (h : ∀ x ∈ l, x.ops.length ≤ 12) : (l.flatMap blockText).length ≤ 53 * l.length := by
  induction l with
  | nil => simp
  | cons x r ih =>
    have h1 := h x (by simp)
    have h2 := ih (fun y hy => h y (by simp [hy]))
    simp only [List.flatMap_cons, List.length_append, blockText_length, List.length_cons]
    omega

theorem progTo_size {p : ProgD} (hg : progGood p = true) (k : Nat) : (progTo p k).size ≤ 330 := by
  have h1 := progGood_len hg
  have h2 := bflat_le (l := p.blocks.take k) (fun x hx => by
    have := progGood_block hg x (List.mem_of_mem_take hx)
    simp [blockGood] at this
    exact this.1.1)
  have h3 : (p.blocks.take k).length ≤ 6 := Nat.le_trans (List.length_take_le' _ _) h1.2
  have e : (progTo p k).size = 7 + ((p.blocks.take k).flatMap blockText).length := by
    simp [progTo, str, ByteArray.size, headText]; omega
  omega

end Go.Proofs.Ytdjdjkgoelbbdaa
