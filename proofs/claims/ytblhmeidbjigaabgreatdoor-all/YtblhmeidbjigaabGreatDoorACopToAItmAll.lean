/- copied; lists that are copies, read wherever their blocks stay. -/
import Derived.Test.YtblhmeidbjigaabGreatDoorRows
import Derived.WalkKit
import Derived.WalkSpells
import Derived.WalkLawsBesides
import Derived.Laws.BytesArg
import Derived.Deep.QuietTactic
import Derived.BigQuiet
import Derived.Deep.RegionHeld3
import Derived.Lib.ItoaNum
import Derived.Lib.ItoaLen
import Derived.OpenShut
import Derived.Maps.AppendAt
import Derived.Shelf.Strconv.Itoa3
import Derived.Shelf.Lay
import Derived.Ground.NamesProg
import Derived.Lib.SmallJoins
import Derived.Lib.Hide
import Derived.StillTailTactics
import Derived.ProofKit
import Derived.SizedLaws
import Derived.Deep.Slices
import Derived.ShutString
import Derived.ChangeOld
import Derived.Deep.Strs
import Derived.Test.YtblhmeidbjigaabGreatDoorAStToLRoomAll

set_option linter.unusedSimpArgs false
set_option linter.unusedVariables false
namespace Go.Proofs.YtblhmeidbjigaabGreatDoor
open Go.RowKit

theorem rowI_in {w : World} {g cap : Nat} {l : List Int} (h : Row w g 3 (ints l)) (hl : l.length ≤ 9223372036854775807) : InT w (fun w' => RdWords w' (.slice (some ⟨g, 0, none⟩) l.length cap) l) := fun w' hs => by
  have h' := row_six h (.inr (.inr (.inr (.inr (.inl rfl))))) hs
  refine ⟨_, _, rfl, hl, fun i hi => ⟨g, 0, rfl, ?_⟩⟩
  rw [Nat.zero_add]
  refine Row.cell h' (i := i) ?_
  simp [ints, List.getD, hi]

theorem rowT_in {w : World} {g cap : Nat} {l : List (List UInt8)} (h : Row w g 9 (texts l)) (hl : l.length ≤ 9223372036854775807) : InT w (fun w' => RdTexts w' (.slice (some ⟨g, 0, none⟩) l.length cap) l) := fun w' hs => by
  have h' := row_six h (.inr (.inr (.inr (.inr (.inr rfl))))) hs
  refine ⟨_, _, rfl, hl, fun i hi => ⟨g, 0, rfl, ?_⟩⟩
  rw [Nat.zero_add]
  refine Row.cell h' (i := i) ?_
  simp [texts, List.getD, hi]

theorem full_row (l : List Int) : ints l ++ (pad [Value.int .i64 0] l.length).drop (ints l).length = ints l := by
  rw [List.drop_eq_nil_of_le (by rw [pad_length, ints_length]; simp), List.append_nil]

set_option maxRecDepth 100000 in
set_option maxHeartbeats 2000000 in
theorem aCopied_cps (v : Value) (l : List Int) (w : World) (hr : RdWords w v l) (hn : l.length ≤ 17592186044416) (Post : Ending → World → Prop)
    (hp : ∀ w', Row w' w.heap.size 3 (ints l) → Below w.heap.size w w' → Post (.returned (.slice (some ⟨w.heap.size, 0, none⟩) l.length l.length)) w') :
    Calls Tryz.prog 45 #[v] w Post := by
  obtain ⟨so, sc, rfl, hll, _⟩ := id hr
  obtain ⟨i0, ii, iz0, iz1, iz2⟩ := info_parts Tryz.infoInt
  go_enter Tryz.func45, Tryz.ntmps45
  go_wp2_with (at_make; refine wpList_make_row _ rfl _ _ 22 rfl 3 i0 _ [.int .i64 0] Tryz.underlying22 ii iz0 iz1 rfl (by decide) _ _ _ _ l.length rfl rfl (by simp) (by simp) ?e1 ?e2 ?_)
  case e1 => first | omega | (rw [iz2]; omega)
  case e2 => unfold maxLen; omega
  intro w1 hP hb1 hz1
  have hr1 := hr.keep hb1
  clear hz1
  go_wp2_with (refine wpList_copy_row _ rfl (.tmp 7) (.tmp 8) 22 rfl 3 i0 Tryz.underlying22 ii 1 iz1 w.heap.size _ _ so _ _ rfl rfl _ hP (ints l) ?g1 (rdw_none hr1) (rdw_cells hr1) ?g2 (intsw_one _) ?_)
  case g1 => rw [ints_length]; simp [Nat.min_def]
  case g2 => rw [ints_length, pad_length]; simp
  intro w2 hR hU
  rw [full_row] at hR
  have hb2 := hU.below hb1 (Nat.le_refl _)
  have HF := Lib.hid (hp w2 hR hb2)
  clear hp hR hU hb1 hb2 hP hr hr1
  go_wp2
  first | exact HF.out | (go_ret; exact HF.out)

end Go.Proofs.YtblhmeidbjigaabGreatDoor

/- A hint that came in, read. -/
set_option linter.unusedSimpArgs false
set_option linter.unusedVariables false
namespace Go.Proofs.YtblhmeidbjigaabGreatDoor
open Go.RowKit Go.ChangeShapes Go.WideShapes Go.ChangeAt Go.Deep

theorem Tryz.cellsInt : Tryz.prog.cellsOf 3 = 1 := by kernel_rfl
theorem Tryz.cellsPair : Tryz.prog.cellsOf 38 = 2 := by kernel_rfl
theorem Tryz.cellsPing : Tryz.prog.cellsOf 33 = 2 := by kernel_rfl
theorem Tryz.cellsPairs : Tryz.prog.cellsOf 31 = 1 := by kernel_rfl
theorem Tryz.bytesPair : Tryz.prog.bytesOf 38 = 16 := by kernel_rfl
theorem Tryz.bytesPing : Tryz.prog.bytesOf 33 = 32 := by kernel_rfl

section
variable {H : Type} {enc : TypeId × Value → H} {w : World} {spare : Nat → Bool} {held : Bool}

theorem cells_get {base n : Nat} {a : Addr} {cs : List Value} (h : w.cells? base a n = some cs) : cs.length = n ∧ ∀ i (hi : i < cs.length), w.cell? (a.add i) = some cs[i] := by
  obtain ⟨_, hl, hc⟩ := World.cells?_some h
  refine ⟨hl, fun i hi => ?_⟩
  have := hc i (by omega)
  rw [List.getElem?_eq_getElem hi] at this
  exact this

/-- The address of a slice's first cell, where there is one. -/
theorem addr_lit {a : Addr} {v : Value} (h : w.cell? (a.add 0) = some v) : a = ⟨a.block, a.off, none⟩ := by
  have e : a.add 0 = a := by simp [Addr.add]
  rw [e] at h
  have hs := World.cell?_spot h
  cases a
  simp at hs
  rw [hs]

theorem open_pair {fuel : Nat} {cs : List Value} {x : DataW H × List MemPlace} (h : DataW.trod enc Tryz.prog w 0 spare held fuel 38 cs = some x) : ∃ a b : Int, cs = [.int .i64 a, .int .i64 b] := by
  obtain ⟨y0, y1, n, _, hl, h0, h1⟩ := trod_struct2 Tryz.underlying38 h
  rw [Tryz.cellsPair] at hl
  simp only [Tryz.cellsInt] at h0 h1
  match cs, hl with
  | [c0, c1], _ =>
    obtain ⟨a, e0, _, _⟩ := DataW.trod_int Tryz.underlying3 h0
    obtain ⟨b, e1, _, _⟩ := DataW.trod_int Tryz.underlying3 h1
    simp at e0 e1
    exact ⟨a, b, by rw [e0, e1]⟩

theorem open_pairs {fuel : Nat} {v : Value} {x : DataW H × List MemPlace} (h : DataW.trod enc Tryz.prog w 0 spare held fuel 31 [v] = some x) (hs : ∀ n ∈ x.1.weights Tryz.prog 31, n ≤ reachBytes) :
    ∃ ps, RdPairs w v ps ∧ ps.length ≤ 8796093022208 := by
  rcases open_slice Tryz.underlying31 h with ⟨e, _⟩ | ⟨a, len, cap, m, n, D, Pl, e, _, hlc, hcm, hm, hx, hel⟩
  · simp at e
    subst e
    exact ⟨[], ⟨none, 0, rfl, by simp, fun i hi => by simp at hi⟩, by simp⟩
  · simp at e
    subst e
    have hlm : len ≤ m := by rw [hm]; split <;> omega
    have key : ∀ i, i < len → ∃ p : PairD, w.cell? (a.add (i * 2)) = some (.int .i64 p.reg) ∧ w.cell? (a.add (i * 2 + 1)) = some (.int .i64 p.place) := by
      intro i hi
      obtain ⟨cs', hc, ht⟩ := hel i (by omega)
      rw [Tryz.cellsPair] at hc
      obtain ⟨x0, x1, rfl⟩ := open_pair ht
      have := (cells_get hc).2
      refine ⟨⟨x0, x1⟩, ?_, ?_⟩
      · have := this 0 (by simp); simpa [add_add] using this
      · have := this 1 (by simp); simpa [add_add] using this
    obtain ⟨f, hf⟩ := @choose_lt PairD ⟨pz⟩ len (fun i p => w.cell? (a.add (i * 2)) = some (.int .i64 p.reg) ∧ w.cell? (a.add (i * 2 + 1)) = some (.int .i64 p.place)) key
    have hw : len * 16 ≤ reachBytes := by
      have := hs ((len + (m - len)) * 16) (by rw [hx]; simp [DataW.weights, Tryz.underlying31, Tryz.bytesPair])
      omega
    have hlen : len ≤ 8796093022208 := by unfold reachBytes at hw; omega
    refine ⟨(List.range len).map f, ⟨some a, cap, by simp, by simp; omega, fun i hi => ?_⟩, by simpa using hlen⟩
    have hi' : i < len := by simpa using hi
    obtain ⟨c1, c2⟩ := hf i hi'
    have ha := addr_lit (by simpa using (hf 0 (by omega)).1)
    rw [ha, Addr.add_lit] at c1 c2
    refine ⟨a.block, a.off, by rw [← ha], ?_, ?_⟩
    · rw [c1]; simp [preg, hi']
    · rw [Nat.add_assoc, c2]; simp [pplace, hi']

theorem open_ping {fuel : Nat} {cs : List Value} {x : DataW H × List MemPlace} (h : DataW.trod enc Tryz.prog w 0 spare held fuel 33 cs = some x) (hs : ∀ n ∈ x.1.weights Tryz.prog 33, n ≤ reachBytes) :
    ∃ (a : Int) (sv : Value) (ps : List PairD), cs = [.int .i64 a, sv] ∧ RdPairs w sv ps ∧ ps.length ≤ 8796093022208 := by
  obtain ⟨y0, y1, n, hx, hl, h0, h1⟩ := trod_struct2 Tryz.underlying33 h
  rw [Tryz.cellsPing] at hl
  simp only [Tryz.cellsInt, Tryz.cellsPairs] at h0 h1
  match cs, hl with
  | [c0, c1], _ =>
    obtain ⟨a, e0, _, _⟩ := DataW.trod_int Tryz.underlying3 h0
    simp at e0
    obtain ⟨ps, hp, hn⟩ := open_pairs (v := c1) (x := y1) (by simpa using h1) (fun n hn => hs n (by rw [hx]; simp [DataW.weights, DataW.weightsEach, Tryz.underlying33]; exact .inr hn))
    exact ⟨a, c1, ps, by rw [e0], hp, hn⟩

theorem weightsAll_mem {P : Program} {e : TypeId} {l : List (DataW H)} {d : DataW H} (hd : d ∈ l) {n : Nat} (hn : n ∈ d.weights P e) : n ∈ DataW.weightsAll P e l := by
  induction l with
  | nil => cases hd
  | cons x r ih =>
    rw [DataW.weightsAll, List.mem_append]
    rcases List.mem_cons.1 hd with rfl | hd
    · exact .inl hn
    · exact .inr (ih hd)

theorem open_hint {fuel : Nat} {v : Value} {x : DataW H × List MemPlace} (h : DataW.trod enc Tryz.prog w 0 spare held fuel 28 [v] = some x) (hs : ∀ n ∈ x.1.weights Tryz.prog 28, n ≤ reachBytes) :
    ∃ g, RdHint w v g ∧ g.length ≤ 4398046511104 ∧ ∀ k, k < g.length → (hpairs g k).length ≤ 8796093022208 := by
  rcases open_slice Tryz.underlying28 h with ⟨e, _⟩ | ⟨a, len, cap, m, n, D, Pl, e, _, hlc, hcm, hm, hx, hel⟩
  · simp at e
    subst e
    exact ⟨[], ⟨none, 0, rfl, by simp, fun i hi => by simp at hi⟩, by simp, fun i hi => by simp at hi⟩
  · simp at e
    subst e
    have hlm : len ≤ m := by rw [hm]; split <;> omega
    have key : ∀ i, i < len → ∃ p : PingD, w.cell? (a.add (i * 2)) = some (.int .i64 p.src) ∧ (∃ sv, w.cell? (a.add (i * 2 + 1)) = some sv ∧ RdPairs w sv p.pairs) ∧ p.pairs.length ≤ 8796093022208 := by
      intro i hi
      obtain ⟨cs', hc, ht⟩ := hel i (by omega)
      rw [Tryz.cellsPing] at hc
      obtain ⟨x0, sv, ps, rfl, hp, hn⟩ := open_ping ht (fun n hn => hs n (by
        rw [hx]
        simp only [DataW.weights, Tryz.underlying28]
        refine List.mem_cons.2 (.inr (List.mem_append.2 (.inl ?_)))
        exact weightsAll_mem (List.mem_map.2 ⟨i, by simpa using hi, rfl⟩) hn))
      have := (cells_get hc).2
      refine ⟨⟨x0, ps⟩, ?_, ⟨sv, ?_, hp⟩, hn⟩
      · have := this 0 (by simp); simpa [add_add] using this
      · have := this 1 (by simp); simpa [add_add] using this
    obtain ⟨f, hf⟩ := @choose_lt PingD ⟨hz⟩ len _ key
    have hw : len * 32 ≤ reachBytes := by
      have := hs ((len + (m - len)) * 32) (by rw [hx]; simp [DataW.weights, Tryz.underlying28, Tryz.bytesPing])
      omega
    have hlen : len ≤ 4398046511104 := by unfold reachBytes at hw; omega
    refine ⟨(List.range len).map f, ⟨some a, cap, by simp, by simp; omega, fun i hi => ?_⟩, by simpa using hlen, fun k hk => ?_⟩
    · have hi' : i < len := by simpa using hi
      obtain ⟨c1, ⟨sv, c2, c3⟩, _⟩ := hf i hi'
      have ha := addr_lit (by simpa using (hf 0 (by omega)).1)
      rw [ha, Addr.add_lit] at c1 c2
      refine ⟨a.block, a.off, sv, by rw [← ha], ?_, ?_, ?_⟩
      · rw [c1]; simp [hsrc, hi']
      · rw [Nat.add_assoc, c2]
      · have : hpairs ((List.range len).map f) i = (f i).pairs := by simp [hpairs, hi']
        rw [this]; exact c3
    · have hk' : k < len := by simpa using hk
      have : hpairs ((List.range len).map f) k = (f k).pairs := by simp [hpairs, hk']
      rw [this]; exact (hf k hk').2.2

end

end Go.Proofs.YtblhmeidbjigaabGreatDoor

/- A program that came in, read. -/
set_option linter.unusedSimpArgs false
set_option linter.unusedVariables false
namespace Go.Proofs.YtblhmeidbjigaabGreatDoor
open Go.RowKit Go.ChangeShapes Go.WideShapes Go.ChangeAt Go.Deep

theorem Tryz.cellsOp : Tryz.prog.cellsOf 36 = 4 := by kernel_rfl
theorem Tryz.cellsEnd : Tryz.prog.cellsOf 40 = 4 := by kernel_rfl
theorem Tryz.cellsBlk : Tryz.prog.cellsOf 42 = 5 := by kernel_rfl
theorem Tryz.cellsProg : Tryz.prog.cellsOf 25 = 5 := by kernel_rfl
theorem Tryz.cellsOps : Tryz.prog.cellsOf 34 = 1 := by kernel_rfl
theorem Tryz.cellsBlks : Tryz.prog.cellsOf 23 = 1 := by kernel_rfl
theorem Tryz.bytesOp : Tryz.prog.bytesOf 36 = 32 := by kernel_rfl
theorem Tryz.bytesBlk : Tryz.prog.bytesOf 42 = 56 := by kernel_rfl

section
variable {H : Type} {enc : TypeId × Value → H} {w : World} {spare : Nat → Bool} {held : Bool}

theorem open_op {fuel : Nat} {cs : List Value} {x : DataW H × List MemPlace} (h : DataW.trod enc Tryz.prog w 0 spare held fuel 36 cs = some x) : ∃ o : OpD, cs = [.int .i64 o.kind, .int .i64 o.a, .int .i64 o.b, .int .i64 o.c] := by
  obtain ⟨y0, y1, y2, y3, n, _, hl, h0, h1, h2, h3⟩ := Go.Joins.trod_struct4 Tryz.underlying36 h
  rw [Tryz.cellsOp] at hl
  simp only [Tryz.cellsInt] at h0 h1 h2 h3
  match cs, hl with
  | [c0, c1, c2, c3], _ =>
    obtain ⟨a, e0, _, _⟩ := DataW.trod_int Tryz.underlying3 h0
    obtain ⟨b, e1, _, _⟩ := DataW.trod_int Tryz.underlying3 h1
    obtain ⟨c, e2, _, _⟩ := DataW.trod_int Tryz.underlying3 h2
    obtain ⟨d, e3, _, _⟩ := DataW.trod_int Tryz.underlying3 h3
    simp at e0 e1 e2 e3
    exact ⟨⟨a, b, c, d⟩, by rw [e0, e1, e2, e3]⟩

theorem open_end {fuel : Nat} {cs : List Value} {x : DataW H × List MemPlace} (h : DataW.trod enc Tryz.prog w 0 spare held fuel 40 cs = some x) : ∃ o : EndD, cs = [.int .i64 o.kind, .int .i64 o.r, .int .i64 o.x, .int .i64 o.y] := by
  obtain ⟨y0, y1, y2, y3, n, _, hl, h0, h1, h2, h3⟩ := Go.Joins.trod_struct4 Tryz.underlying40 h
  rw [Tryz.cellsEnd] at hl
  simp only [Tryz.cellsInt] at h0 h1 h2 h3
  match cs, hl with
  | [c0, c1, c2, c3], _ =>
    obtain ⟨a, e0, _, _⟩ := DataW.trod_int Tryz.underlying3 h0
    obtain ⟨b, e1, _, _⟩ := DataW.trod_int Tryz.underlying3 h1
    obtain ⟨c, e2, _, _⟩ := DataW.trod_int Tryz.underlying3 h2
    obtain ⟨d, e3, _, _⟩ := DataW.trod_int Tryz.underlying3 h3
    simp at e0 e1 e2 e3
    exact ⟨⟨a, b, c, d⟩, by rw [e0, e1, e2, e3]⟩

theorem open_ops {fuel : Nat} {v : Value} {x : DataW H × List MemPlace} (h : DataW.trod enc Tryz.prog w 0 spare held fuel 34 [v] = some x) (hs : ∀ n ∈ x.1.weights Tryz.prog 34, n ≤ reachBytes) :
    ∃ ps, RdOps w v ps ∧ ps.length ≤ 4398046511104 := by
  rcases open_slice Tryz.underlying34 h with ⟨e, _⟩ | ⟨a, len, cap, m, n, D, Pl, e, _, hlc, hcm, hm, hx, hel⟩
  · simp at e
    subst e
    exact ⟨[], ⟨none, 0, rfl, by simp, fun i hi => by simp at hi⟩, by simp⟩
  · simp at e
    subst e
    have hlm : len ≤ m := by rw [hm]; split <;> omega
    have key : ∀ i, i < len → ∃ p : OpD, w.cell? (a.add (i * 4)) = some (.int .i64 p.kind) ∧ w.cell? (a.add (i * 4 + 1)) = some (.int .i64 p.a) ∧ w.cell? (a.add (i * 4 + 2)) = some (.int .i64 p.b) ∧ w.cell? (a.add (i * 4 + 3)) = some (.int .i64 p.c) := by
      intro i hi
      obtain ⟨cs', hc, ht⟩ := hel i (by omega)
      rw [Tryz.cellsOp] at hc
      obtain ⟨o, rfl⟩ := open_op ht
      have := (cells_get hc).2
      refine ⟨o, ?_, ?_, ?_, ?_⟩
      · have := this 0 (by simp); simpa [add_add] using this
      · have := this 1 (by simp); simpa [add_add] using this
      · have := this 2 (by simp); simpa [add_add] using this
      · have := this 3 (by simp); simpa [add_add] using this
    obtain ⟨f, hf⟩ := @choose_lt OpD ⟨oz⟩ len _ key
    have hw : len * 32 ≤ reachBytes := by
      have := hs ((len + (m - len)) * 32) (by rw [hx]; simp [DataW.weights, Tryz.underlying34, Tryz.bytesOp])
      omega
    have hlen : len ≤ 4398046511104 := by unfold reachBytes at hw; omega
    refine ⟨(List.range len).map f, ⟨some a, cap, by simp, by simp; omega, fun i hi => ?_⟩, by simpa using hlen⟩
    have hi' : i < len := by simpa using hi
    obtain ⟨c1, c2, c3, c4⟩ := hf i hi'
    have ha := addr_lit (by simpa using (hf 0 (by omega)).1)
    rw [ha, Addr.add_lit] at c1 c2 c3 c4
    refine ⟨a.block, a.off, by rw [← ha], ?_, ?_, ?_, ?_⟩
    · rw [c1]; simp [okind, hi']
    · rw [Nat.add_assoc, c2]; simp [oa, hi']
    · rw [Nat.add_assoc, c3]; simp [ob, hi']
    · rw [Nat.add_assoc, c4]; simp [oc, hi']

theorem open_blk {fuel : Nat} {cs : List Value} {x : DataW H × List MemPlace} (h : DataW.trod enc Tryz.prog w 0 spare held fuel 42 cs = some x) (hs : ∀ n ∈ x.1.weights Tryz.prog 42, n ≤ reachBytes) :
    ∃ (o : EndD) (sv : Value) (ps : List OpD), cs = [sv, .int .i64 o.kind, .int .i64 o.r, .int .i64 o.x, .int .i64 o.y] ∧ RdOps w sv ps ∧ ps.length ≤ 4398046511104 := by
  obtain ⟨y0, y1, n, hx, hl, h0, h1⟩ := trod_struct2 Tryz.underlying42 h
  rw [Tryz.cellsBlk] at hl
  simp only [Tryz.cellsEnd, Tryz.cellsOps] at h0 h1
  match cs, hl with
  | [c0, c1, c2, c3, c4], _ =>
    obtain ⟨o, e⟩ := open_end h1
    simp at e
    obtain ⟨ps, hp, hn⟩ := open_ops (v := c0) (x := y0) (by simpa using h0) (fun n hn => hs n (by rw [hx]; simp [DataW.weights, DataW.weightsEach, Tryz.underlying42]; exact .inl hn))
    exact ⟨o, c0, ps, by rw [e.1, e.2.1, e.2.2.1, e.2.2.2], hp, hn⟩

theorem open_blks {fuel : Nat} {v : Value} {x : DataW H × List MemPlace} (h : DataW.trod enc Tryz.prog w 0 spare held fuel 23 [v] = some x) (hs : ∀ n ∈ x.1.weights Tryz.prog 23, n ≤ reachBytes) :
    ∃ g, RdBlocks w v g ∧ g.length ≤ 2513169434916 ∧ ∀ k, k < g.length → (bops g k).length ≤ 4398046511104 := by
  rcases open_slice Tryz.underlying23 h with ⟨e, _⟩ | ⟨a, len, cap, m, n, D, Pl, e, _, hlc, hcm, hm, hx, hel⟩
  · simp at e
    subst e
    exact ⟨[], ⟨none, 0, rfl, by simp, fun i hi => by simp at hi⟩, by simp, fun i hi => by simp at hi⟩
  · simp at e
    subst e
    have hlm : len ≤ m := by rw [hm]; split <;> omega
    have key : ∀ i, i < len → ∃ p : BlockD, (∃ sv, w.cell? (a.add (i * 5)) = some sv ∧ RdOps w sv p.ops) ∧ w.cell? (a.add (i * 5 + 1)) = some (.int .i64 p.fin.kind) ∧ w.cell? (a.add (i * 5 + 2)) = some (.int .i64 p.fin.r) ∧ w.cell? (a.add (i * 5 + 3)) = some (.int .i64 p.fin.x) ∧ w.cell? (a.add (i * 5 + 4)) = some (.int .i64 p.fin.y) ∧ p.ops.length ≤ 4398046511104 := by
      intro i hi
      obtain ⟨cs', hc, ht⟩ := hel i (by omega)
      rw [Tryz.cellsBlk] at hc
      obtain ⟨o, sv, ps, rfl, hp, hn⟩ := open_blk ht (fun n hn => hs n (by
        rw [hx]
        simp only [DataW.weights, Tryz.underlying23]
        refine List.mem_cons.2 (.inr (List.mem_append.2 (.inl ?_)))
        exact weightsAll_mem (List.mem_map.2 ⟨i, by simpa using hi, rfl⟩) hn))
      have := (cells_get hc).2
      refine ⟨⟨ps, o⟩, ⟨sv, ?_, hp⟩, ?_, ?_, ?_, ?_, hn⟩
      · have := this 0 (by simp); simpa [add_add] using this
      · have := this 1 (by simp); simpa [add_add] using this
      · have := this 2 (by simp); simpa [add_add] using this
      · have := this 3 (by simp); simpa [add_add] using this
      · have := this 4 (by simp); simpa [add_add] using this
    obtain ⟨f, hf⟩ := @choose_lt BlockD ⟨bz⟩ len _ key
    have hw : len * 56 ≤ reachBytes := by
      have := hs ((len + (m - len)) * 56) (by rw [hx]; simp [DataW.weights, Tryz.underlying23, Tryz.bytesBlk])
      omega
    have hlen : len ≤ 2513169434916 := by unfold reachBytes at hw; omega
    refine ⟨(List.range len).map f, ⟨some a, cap, by simp, by simp; omega, fun i hi => ?_⟩, by simpa using hlen, fun k hk => ?_⟩
    · have hi' : i < len := by simpa using hi
      obtain ⟨⟨sv, c0, c6⟩, c1, c2, c3, c4, _⟩ := hf i hi'
      obtain ⟨⟨sv0, k0, _⟩, _⟩ := hf 0 (by omega)
      have ha := addr_lit (by simpa using k0)
      rw [ha, Addr.add_lit] at c0 c1 c2 c3 c4
      have eb : bops ((List.range len).map f) i = (f i).ops := by simp [bops, hi']
      have ef : bfin ((List.range len).map f) i = (f i).fin := by simp [bfin, hi']
      refine ⟨a.block, a.off, sv, by rw [← ha], c0, ?_, ?_, ?_, ?_, ?_⟩
      · rw [Nat.add_assoc, c1]; unfold bek; rw [ef]
      · rw [Nat.add_assoc, c2]; unfold ber; rw [ef]
      · rw [Nat.add_assoc, c3]; unfold bex; rw [ef]
      · rw [Nat.add_assoc, c4]; unfold bey; rw [ef]
      · rw [eb]; exact c6
    · have hk' : k < len := by simpa using hk
      have : bops ((List.range len).map f) k = (f k).ops := by simp [bops, hk']
      rw [this]; exact (hf k hk').2.2.2.2.2

theorem trod_struct5 {P : Program} {t : TypeId} {f0 f1 f2 f3 f4 : Field} {fuel : Nat} {cs : List Value} {x : DataW H × List MemPlace} (ht : P.underlying t = some (.struct #[f0, f1, f2, f3, f4])) (h : DataW.trod enc P w 0 spare held fuel t cs = some x) :
    ∃ y0 y1 y2 y3 y4 n q, x = (.agg [y0.1, y1.1, y2.1, y3.1, y4.1], q) ∧ cs.length = P.cellsOf t ∧ DataW.trod enc P w 0 spare held n f0.type ((cs.drop f0.offset).take (P.cellsOf f0.type)) = some y0 ∧
      DataW.trod enc P w 0 spare held n f1.type ((cs.drop f1.offset).take (P.cellsOf f1.type)) = some y1 ∧ DataW.trod enc P w 0 spare held n f2.type ((cs.drop f2.offset).take (P.cellsOf f2.type)) = some y2 ∧
      DataW.trod enc P w 0 spare held n f3.type ((cs.drop f3.offset).take (P.cellsOf f3.type)) = some y3 ∧ DataW.trod enc P w 0 spare held n f4.type ((cs.drop f4.offset).take (P.cellsOf f4.type)) = some y4 := by
  obtain ⟨xs, n, _, rfl, hl, hlen, hf⟩ := DataW.trod_struct ht h
  match xs, hlen with
  | [y0, y1, y2, y3, y4], _ => exact ⟨y0, y1, y2, y3, y4, n, _, by simp; rfl, hl, by simpa using hf 0 f0 rfl, by simpa using hf 1 f1 rfl, by simpa using hf 2 f2 rfl, by simpa using hf 3 f3 rfl, by simpa using hf 4 f4 rfl⟩

end

end Go.Proofs.YtblhmeidbjigaabGreatDoor

/- A list of words that came in, read. -/
set_option linter.unusedSimpArgs false
set_option linter.unusedVariables false
namespace Go.Proofs.YtblhmeidbjigaabGreatDoor
open Go.RowKit Go.ChangeShapes Go.WideShapes Go.ChangeAt Go.Deep

theorem Tryz.bytesInt : Tryz.prog.bytesOf 3 = 8 := by kernel_rfl

/-- Words: within 64 bits. -/
def Wide (l : List Int) : Prop := ∀ x ∈ l, -9223372036854775808 ≤ x ∧ x ≤ 9223372036854775807

section
variable {H : Type} {enc : TypeId × Value → H} {w : World} {spare : Nat → Bool} {held : Bool}

theorem open_words {fuel : Nat} {v : Value} {x : DataW H × List MemPlace} (h : DataW.trod enc Tryz.prog w 0 spare held fuel 22 [v] = some x) (hs : ∀ n ∈ x.1.weights Tryz.prog 22, n ≤ reachBytes) :
    ∃ l, RdWords w v l ∧ l.length ≤ 17592186044416 ∧ Wide l := by
  rcases open_slice Tryz.underlying22 h with ⟨e, _⟩ | ⟨a, len, cap, m, n, D, Pl, e, _, hlc, hcm, hm, hx, hel⟩
  · simp at e
    subst e
    exact ⟨[], rdWords_nil w, by simp, fun x hx => by cases hx⟩
  · simp at e
    subst e
    have hlm : len ≤ m := by rw [hm]; split <;> omega
    have key : ∀ i, i < len → ∃ p : Int, w.cell? (a.add i) = some (.int .i64 p) ∧ -9223372036854775808 ≤ p ∧ p ≤ 9223372036854775807 := by
      intro i hi
      obtain ⟨cs', hc, ht⟩ := hel i (by omega)
      rw [Tryz.cellsInt] at hc
      obtain ⟨x0, rfl, _, hwf⟩ := DataW.trod_int Tryz.underlying3 ht
      have := (cells_get hc).2
      refine ⟨x0, ?_, ?_⟩
      · have := this 0 (by simp); simpa [add_add] using this
      · simp only [Lit.wf, Bool.and_eq_true, decide_eq_true_eq] at hwf
        exact ⟨Int.le_trans (by decide) hwf.1, Int.le_trans hwf.2 (by decide)⟩
    obtain ⟨f, hf⟩ := @choose_lt Int ⟨0⟩ len _ key
    have hw : len * 8 ≤ reachBytes := by
      have := hs ((len + (m - len)) * 8) (by rw [hx]; simp [DataW.weights, Tryz.underlying22, Tryz.bytesInt])
      omega
    have hlen : len ≤ 17592186044416 := by unfold reachBytes at hw; omega
    refine ⟨(List.range len).map f, ⟨some a, cap, by simp, by simp; omega, fun i hi => ?_⟩, by simpa using hlen, ?_⟩
    · have hi' : i < len := by simpa using hi
      obtain ⟨c1, _⟩ := hf i hi'
      have ha := addr_lit (by simpa using (hf 0 (by omega)).1)
      rw [ha, Addr.add_lit] at c1
      refine ⟨a.block, a.off, by rw [← ha], ?_⟩
      rw [c1]; simp [List.getD, hi']
    · intro x hx
      obtain ⟨i, hi, rfl⟩ := List.mem_map.1 hx
      exact (hf i (by simpa using hi)).2

end

end Go.Proofs.YtblhmeidbjigaabGreatDoor

/- An input that came in. -/
set_option linter.unusedSimpArgs false
set_option linter.unusedVariables false
namespace Go.Proofs.YtblhmeidbjigaabGreatDoor
open Go.RowKit Go.ChangeShapes Go.WideShapes Go.ChangeAt Go.Deep

theorem Tryz.cellsInputQ : Tryz.prog.cellsOf 67 = 3 := by kernel_rfl
theorem Tryz.cellsIntsQ : Tryz.prog.cellsOf 22 = 1 := by kernel_rfl

section
variable {H : Type} {enc : TypeId × Value → H} {w : World} {spare : Nat → Bool} {held : Bool}

end


end Go.Proofs.YtblhmeidbjigaabGreatDoor

/- A script of steps that came in, read. -/
set_option linter.unusedSimpArgs false
set_option linter.unusedVariables false
namespace Go.Proofs.YtblhmeidbjigaabGreatDoor
open Go.RowKit Go.ChangeShapes Go.WideShapes Go.ChangeAt Go.Deep

theorem Tryz.cellsStep : Tryz.prog.cellsOf 83 = 15 := by kernel_rfl
theorem Tryz.cellsStr : Tryz.prog.cellsOf 9 = 1 := by kernel_rfl
theorem Tryz.cellsHintS : Tryz.prog.cellsOf 30 = 1 := by kernel_rfl
theorem Tryz.cellsPingsS : Tryz.prog.cellsOf 28 = 1 := by kernel_rfl
theorem Tryz.bytesStep : Tryz.prog.bytesOf 83 = 224 := by kernel_rfl

/-- A step. -/
structure StepD where
  kind : Int
  s : ByteArray
  t : ByteArray
  h : ByteArray
  a0 : Int
  a1 : Int
  a2 : Int
  a3 : Int
  pv : Value
  bl : List BlockD
  hv : Value
  hl : List PingD
  av : Value
  mv : Value
  sv : Value
  la : List Int
  lm : List Int
  ls : List Int
  a : Int
  b : Int

def stepZ : StepD := ⟨0, ⟨#[]⟩, ⟨#[]⟩, ⟨#[]⟩, 0, 0, 0, 0, .slice none 0 0, [], .slice none 0 0, [], .slice none 0 0, .slice none 0 0, .slice none 0 0, [], [], [], 0, 0⟩

def stepC (x : StepD) : List Value := [.int .i64 x.kind, .string x.s, .string x.t, .string x.h, .int .i64 x.a0, .int .i64 x.a1, .int .i64 x.a2, .int .i64 x.a3, x.pv, x.hv, x.av, x.mv, x.sv, .int .i64 x.a, .int .i64 x.b]

structure OkStep (w : World) (x : StepD) : Prop where
  s : x.s.size ≤ maxLen
  t : x.t.size ≤ maxLen
  h : x.h.size ≤ maxLen
  p : RdBlocks w x.pv x.bl
  pl : x.bl.length ≤ 2513169434916
  po : ∀ k, k < x.bl.length → (bops x.bl k).length ≤ 4398046511104
  g : RdHint w x.hv x.hl
  gl : x.hl.length ≤ 4398046511104
  go : ∀ k, k < x.hl.length → (hpairs x.hl k).length ≤ 8796093022208
  ra : RdWords w x.av x.la
  rm : RdWords w x.mv x.lm
  rs : RdWords w x.sv x.ls
  la : x.la.length ≤ 17592186044416
  lm : x.lm.length ≤ 17592186044416
  ls : x.ls.length ≤ 17592186044416

/-- A script that is read. -/
def RdSteps (w : World) (v : Value) (l : List StepD) : Prop :=
  ∃ ao cap, v = .slice ao l.length cap ∧ l.length ≤ 628292358710 ∧ ∀ i, i < l.length → ∃ b off, ao = some ⟨b, off, none⟩ ∧ (∀ j u, (stepC (l.getD i stepZ))[j]? = some u → w.cell? ⟨b, off + i * 15 + j, none⟩ = some u) ∧ OkStep w (l.getD i stepZ)

section
variable {H : Type} {enc : TypeId × Value → H} {w : World} {spare : Nat → Bool} {held : Bool}

theorem trod_struct9 {P : Program} {t : TypeId} {f0 f1 f2 f3 f4 f5 f6 f7 f8 : Field} {fuel : Nat} {cs : List Value} {x : DataW H × List MemPlace} (ht : P.underlying t = some (.struct #[f0, f1, f2, f3, f4, f5, f6, f7, f8])) (h : DataW.trod enc P w 0 spare held fuel t cs = some x) :
    ∃ y0 y1 y2 y3 y4 y5 y6 y7 y8 n q, x = (.agg [y0.1, y1.1, y2.1, y3.1, y4.1, y5.1, y6.1, y7.1, y8.1], q) ∧ cs.length = P.cellsOf t ∧ DataW.trod enc P w 0 spare held n f0.type ((cs.drop f0.offset).take (P.cellsOf f0.type)) = some y0 ∧
      DataW.trod enc P w 0 spare held n f1.type ((cs.drop f1.offset).take (P.cellsOf f1.type)) = some y1 ∧ DataW.trod enc P w 0 spare held n f2.type ((cs.drop f2.offset).take (P.cellsOf f2.type)) = some y2 ∧
      DataW.trod enc P w 0 spare held n f3.type ((cs.drop f3.offset).take (P.cellsOf f3.type)) = some y3 ∧ DataW.trod enc P w 0 spare held n f4.type ((cs.drop f4.offset).take (P.cellsOf f4.type)) = some y4 ∧
      DataW.trod enc P w 0 spare held n f5.type ((cs.drop f5.offset).take (P.cellsOf f5.type)) = some y5 ∧ DataW.trod enc P w 0 spare held n f6.type ((cs.drop f6.offset).take (P.cellsOf f6.type)) = some y6 ∧
      DataW.trod enc P w 0 spare held n f7.type ((cs.drop f7.offset).take (P.cellsOf f7.type)) = some y7 ∧ DataW.trod enc P w 0 spare held n f8.type ((cs.drop f8.offset).take (P.cellsOf f8.type)) = some y8 := by
  obtain ⟨xs, n, _, rfl, hl, hlen, hf⟩ := DataW.trod_struct ht h
  match xs, hlen with
  | [y0, y1, y2, y3, y4, y5, y6, y7, y8], _ => exact ⟨y0, y1, y2, y3, y4, y5, y6, y7, y8, n, _, by simp; rfl, hl, by simpa using hf 0 f0 rfl, by simpa using hf 1 f1 rfl, by simpa using hf 2 f2 rfl, by simpa using hf 3 f3 rfl, by simpa using hf 4 f4 rfl, by simpa using hf 5 f5 rfl, by simpa using hf 6 f6 rfl, by simpa using hf 7 f7 rfl, by simpa using hf 8 f8 rfl⟩

theorem five_list {cs : List Value} (h : cs.length = 5) : ∃ c0 c1 c2 c3 c4, cs = [c0, c1, c2, c3, c4] := by
  match cs, h with
  | [c0, c1, c2, c3, c4], _ => exact ⟨c0, c1, c2, c3, c4, rfl⟩

theorem open_progT {fuel : Nat} {cs : List Value} {x : DataW H × List MemPlace} (h : DataW.trod enc Tryz.prog w 0 spare held fuel 25 cs = some x) (hs : ∀ n ∈ x.1.weights Tryz.prog 25, n ≤ reachBytes) :
    ∃ a0 a1 a2 a3 u g, cs = [.int .i64 a0, .int .i64 a1, .int .i64 a2, .int .i64 a3, u] ∧ RdBlocks w u g ∧ g.length ≤ 2513169434916 ∧ ∀ k, k < g.length → (bops g k).length ≤ 4398046511104 := by
  obtain ⟨y0, y1, y2, y3, y4, n, q, hx, hl, h0, h1, h2, h3, h4⟩ := trod_struct5 Tryz.underlying25 h
  rw [Tryz.cellsProg] at hl
  obtain ⟨c0, c1, c2, c3, c4, rfl⟩ := five_list hl
  simp only [Tryz.cellsInt, Tryz.cellsBlks] at h0 h1 h2 h3 h4
  obtain ⟨a0, e0, _, _⟩ := DataW.trod_int Tryz.underlying3 h0
  obtain ⟨a1, e1, _, _⟩ := DataW.trod_int Tryz.underlying3 h1
  obtain ⟨a2, e2, _, _⟩ := DataW.trod_int Tryz.underlying3 h2
  obtain ⟨a3, e3, _, _⟩ := DataW.trod_int Tryz.underlying3 h3
  simp at e0 e1 e2 e3
  obtain ⟨g, k1, k2, k3⟩ := open_blks (v := c4) (x := y4) (by simpa using h4) (fun n hn => hs n (by
    rw [hx]
    simp only [DataW.weights, Tryz.underlying25, DataW.weightsEach, List.map_cons, List.map_nil, List.mem_append]
    exact .inr (.inr (.inr (.inr (.inl hn))))))
  exact ⟨a0, a1, a2, a3, c4, g, by rw [e0, e1, e2, e3], k1, k2, k3⟩

theorem open_inputT {fuel : Nat} {cs : List Value} {x : DataW H × List MemPlace} (h : DataW.trod enc Tryz.prog w 0 spare held fuel 67 cs = some x) (hs : ∀ n ∈ x.1.weights Tryz.prog 67, n ≤ reachBytes) :
    ∃ a m s la lm ls, cs = [a, m, s] ∧ RdWords w a la ∧ RdWords w m lm ∧ RdWords w s ls ∧ la.length ≤ 17592186044416 ∧ lm.length ≤ 17592186044416 ∧ ls.length ≤ 17592186044416 := by
  obtain ⟨y0, y1, y2, n, hx, hl, h0, h1, h2⟩ := trod_struct3 Tryz.underlying67 h
  rw [Tryz.cellsInputQ] at hl
  simp only [Tryz.cellsIntsQ] at h0 h1 h2
  match cs, hl with
  | [c0, c1, c2], _ =>
    obtain ⟨l0, r0, n0, _⟩ := open_words (v := c0) (x := y0) (by simpa using h0) (fun n hn => hs n (by
      rw [hx]
      simp [DataW.weights, Tryz.underlying67, DataW.weightsEach]
      exact .inl hn))
    obtain ⟨l1, r1, n1, _⟩ := open_words (v := c1) (x := y1) (by simpa using h1) (fun n hn => hs n (by
      rw [hx]
      simp [DataW.weights, Tryz.underlying67, DataW.weightsEach]
      exact .inr (.inl hn)))
    obtain ⟨l2, r2, n2, _⟩ := open_words (v := c2) (x := y2) (by simpa using h2) (fun n hn => hs n (by
      rw [hx]
      simp [DataW.weights, Tryz.underlying67, DataW.weightsEach]
      exact .inr (.inr hn)))
    exact ⟨c0, c1, c2, l0, l1, l2, rfl, r0, r1, r2, n0, n1, n2⟩

theorem open_hintT {fuel : Nat} {cs : List Value} {x : DataW H × List MemPlace} (h : DataW.trod enc Tryz.prog w 0 spare held fuel 30 cs = some x) (hs : ∀ n ∈ x.1.weights Tryz.prog 30, n ≤ reachBytes) :
    ∃ u g, cs = [u] ∧ RdHint w u g ∧ g.length ≤ 4398046511104 ∧ ∀ k, k < g.length → (hpairs g k).length ≤ 8796093022208 := by
  obtain ⟨y0, n, hx, hl, ht⟩ := trod_struct1 Tryz.underlying30 h
  rw [Tryz.cellsHintS] at hl
  simp only [Tryz.cellsPingsS] at ht
  match cs, hl with
  | [c0], _ =>
    obtain ⟨g, k1, k2, k3⟩ := open_hint (v := c0) (x := y0) (by simpa using ht) (fun n hn => hs n (by
      rw [hx]
      simp only [DataW.weights, Tryz.underlying30, DataW.weightsEach, List.map_cons, List.map_nil, List.mem_append]
      exact .inl hn))
    exact ⟨c0, g, rfl, k1, k2, k3⟩

theorem open_step {fuel : Nat} {cs : List Value} {x : DataW H × List MemPlace} (h : DataW.trod enc Tryz.prog w 0 spare held fuel 83 cs = some x) (hs : ∀ n ∈ x.1.weights Tryz.prog 83, n ≤ reachBytes) : ∃ o : StepD, cs = stepC o ∧ OkStep w o := by
  obtain ⟨y0, y1, y2, y3, y4, y5, y6, y7, y8, n, q, hx, hl, h0, h1, h2, h3, h4, h5, h6, h7, h8⟩ := trod_struct9 Tryz.underlying83 h
  rw [Tryz.cellsStep] at hl
  simp only [Tryz.cellsInt, Tryz.cellsStr, Tryz.cellsProg, Tryz.cellsHintS, Tryz.cellsInputQ] at h0 h1 h2 h3 h4 h5 h6 h7 h8
  match cs, hl with
  | [c0, c1, c2, c3, c4, c5, c6, c7, c8, c9, c10, c11, c12, c13, c14], _ =>
    obtain ⟨k, e0, _, _⟩ := DataW.trod_int Tryz.underlying3 h0
    obtain ⟨s1, e1, _, z1⟩ := DataW.trod_string Tryz.underlying9 h1
    obtain ⟨s2, e2, _, z2⟩ := DataW.trod_string Tryz.underlying9 h2
    obtain ⟨s3, e3, _, z3⟩ := DataW.trod_string Tryz.underlying9 h3
    obtain ⟨a, e7, _, _⟩ := DataW.trod_int Tryz.underlying3 h7
    obtain ⟨b, e8, _, _⟩ := DataW.trod_int Tryz.underlying3 h8
    simp at e0 e1 e2 e3 e7 e8
    obtain ⟨a0, a1, a2, a3, u, g, e4, p1, p2, p3⟩ := open_progT h4 (fun n hn => hs n (by
      rw [hx]
      simp only [DataW.weights, Tryz.underlying83, DataW.weightsEach, List.map_cons, List.map_nil, List.mem_append]
      exact .inr (.inr (.inr (.inr (.inl hn))))))
    obtain ⟨u2, g2, e5, p4, p5, p6⟩ := open_hintT h5 (fun n hn => hs n (by
      rw [hx]
      simp only [DataW.weights, Tryz.underlying83, DataW.weightsEach, List.map_cons, List.map_nil, List.mem_append]
      exact .inr (.inr (.inr (.inr (.inr (.inl hn)))))))
    obtain ⟨av, mv, sv, la, lm, ls, e6, r1, r2, r3, n1, n2, n3⟩ := open_inputT h6 (fun n hn => hs n (by
      rw [hx]
      simp only [DataW.weights, Tryz.underlying83, DataW.weightsEach, List.map_cons, List.map_nil, List.mem_append]
      exact .inr (.inr (.inr (.inr (.inr (.inr (.inl hn))))))))
    simp at e4 e5 e6
    refine ⟨⟨k, s1, s2, s3, a0, a1, a2, a3, u, g, u2, g2, av, mv, sv, la, lm, ls, a, b⟩, ?_, ⟨z1, z2, z3, p1, p2, p3, p4, p5, p6, r1, r2, r3, n1, n2, n3⟩⟩
    simp only [stepC]
    rw [e0, e1, e2, e3, e7, e8, e4.1, e4.2.1, e4.2.2.1, e4.2.2.2.1, e4.2.2.2.2, e5, e6.1, e6.2.1, e6.2.2]

theorem open_steps {fuel : Nat} {v : Value} {x : DataW H × List MemPlace} (h : DataW.trod enc Tryz.prog w 0 spare held fuel 73 [v] = some x) (hs : ∀ n ∈ x.1.weights Tryz.prog 73, n ≤ reachBytes) :
    ∃ g, RdSteps w v g := by
  rcases open_slice Tryz.underlying73 h with ⟨e, _⟩ | ⟨a, len, cap, m, n, D, Pl, e, _, hlc, hcm, hm, hx, hel⟩
  · simp at e
    subst e
    exact ⟨[], none, 0, rfl, by simp, fun i hi => by simp at hi⟩
  · simp at e
    subst e
    have hlm : len ≤ m := by rw [hm]; split <;> omega
    have key : ∀ i, i < len → ∃ p : StepD, (∀ j u, (stepC p)[j]? = some u → w.cell? (a.add (i * 15 + j)) = some u) ∧ OkStep w p := by
      intro i hi
      obtain ⟨cs', hc, ht⟩ := hel i (by omega)
      rw [Tryz.cellsStep] at hc
      obtain ⟨o, rfl, ho⟩ := open_step ht (fun n hn => hs n (by
        rw [hx]
        simp only [DataW.weights, Tryz.underlying73]
        refine List.mem_cons.2 (.inr (List.mem_append.2 (.inl ?_)))
        exact weightsAll_mem (List.mem_map.2 ⟨i, by simpa using hi, rfl⟩) hn))
      have hg := (cells_get hc).2
      refine ⟨o, fun j u hu => ?_, ho⟩
      obtain ⟨hj, hju⟩ := List.getElem?_eq_some_iff.1 hu
      have := hg j (by simpa using hj)
      rw [add_add] at this
      rw [this]
      simpa using hju
    obtain ⟨f, hf⟩ := @choose_lt StepD ⟨stepZ⟩ len _ key
    have hw : len * 224 ≤ reachBytes := by
      have := hs ((len + (m - len)) * 224) (by rw [hx]; simp [DataW.weights, Tryz.underlying73, Tryz.bytesStep])
      omega
    have hlen : len ≤ 628292358710 := by unfold reachBytes at hw; omega
    refine ⟨(List.range len).map f, some a, cap, by simp, by simpa using hlen, fun i hi => ?_⟩
    have hi' : i < len := by simpa using hi
    obtain ⟨c1, c2⟩ := hf i hi'
    have ha := addr_lit (by have := (hf 0 (by omega)).1 0 _ rfl; simpa using this)
    have eg : ((List.range len).map f).getD i stepZ = f i := by simp [List.getD, hi']
    rw [eg]
    refine ⟨a.block, a.off, by rw [← ha], fun j u hu => ?_, c2⟩
    have := c1 j u hu
    rw [ha, Addr.add_lit] at this
    rw [Nat.add_assoc]
    exact this

set_option maxRecDepth 100000 in
theorem open_steps_arg {v : Value} {d : DataW H} {p : List MemPlace} {r : Reach} {b0 : Nat} (hv : Value.okWide Tryz.prog w r b0 73 v) (h : DataW.Trod enc Tryz.prog w 0 spare held 73 v d p) (hs : ∀ n ∈ d.weights Tryz.prog 73, n ≤ reachBytes) : ∃ l, RdSteps w v l := by
  obtain ⟨a, len, cap, rfl⟩ := okWide_slice Tryz.underlying73 hv
  obtain ⟨fuel, hf⟩ := h
  exact open_steps (x := (d, p)) (by simpa [Value.cells] using hf) hs

end

end Go.Proofs.YtblhmeidbjigaabGreatDoor

/- The code's terms as values; the functions that look at one. -/
set_option linter.unusedSimpArgs false
set_option linter.unusedVariables false
namespace Go.Proofs.YtblhmeidbjigaabGreatDoor
open Go.RowKit

/-- A term's kind and number, as the code has them. -/
def ckind : TD → Int
  | .leaf k _ => if k = 100 then 1 else 0
  | .two k _ _ => k
  | .three k _ _ _ => k

def cval : TD → Int
  | .leaf k n => if k = 100 then n else 0
  | _ => 0

/-- A term's cells, given its list of parts. -/
def tcells (t : TD) (ps : Value) : List Value := [.int .i64 (ckind t), .int .i64 (cval t), ps, .int .i64 t.size, .string (str (showT t))]

/-- A term as a value. -/
def termV (t : TD) (ps : Value) : Value := .agg #[.int .i64 (ckind t), .int .i64 (cval t), ps, .int .i64 t.size, .string (str (showT t))]

/-- A term's parts in memory, all in blocks from Lo on. -/
def PartsAt (Lo : Nat) (w : World) : TD → Value → Prop
  | .leaf _ _, ps => ps = .slice none 0 0 ∧ Lo ≤ w.heap.size
  | .two _ a b, ps => ∃ g pa pb, ps = .slice (some ⟨g, 0, none⟩) 2 2 ∧ Lo ≤ g ∧ Row w g 179 (tcells a pa ++ tcells b pb) ∧ PartsAt Lo w a pa ∧ PartsAt Lo w b pb
  | .three _ a b c, ps => ∃ g pa pb pc, ps = .slice (some ⟨g, 0, none⟩) 3 3 ∧ Lo ≤ g ∧ Row w g 179 (tcells a pa ++ tcells b pb ++ tcells c pc) ∧ PartsAt Lo w a pa ∧ PartsAt Lo w b pb ∧ PartsAt Lo w c pc

theorem PartsAt.lo {Lo : Nat} {w : World} {t : TD} {ps : Value} (h : PartsAt Lo w t ps) : Lo ≤ w.heap.size := by
  induction t generalizing ps with
  | leaf k n => exact h.2
  | two k a b iha ihb => obtain ⟨g, pa, pb, e, lg, r, h1, h2⟩ := h; exact iha h1
  | three k a b c iha ihb ihc => obtain ⟨g, pa, pb, pc, e, lg, r, h1, h2, h3⟩ := h; exact iha h1

theorem PartsAt.keep {Lo : Nat} {w w' : World} {t : TD} {ps : Value} (h : PartsAt Lo w t ps) (hb : Below w.heap.size w w') : PartsAt Lo w' t ps := by
  induction t generalizing ps with
  | leaf k n => exact ⟨h.1, Nat.le_trans h.2 hb.size⟩
  | two k a b iha ihb => obtain ⟨g, pa, pb, e, lg, r, h1, h2⟩ := h; exact ⟨g, pa, pb, e, lg, r.keep hb, iha h1, ihb h2⟩
  | three k a b c iha ihb ihc => obtain ⟨g, pa, pb, pc, e, lg, r, h1, h2, h3⟩ := h; exact ⟨g, pa, pb, pc, e, lg, r.keep hb, iha h1, ihb h2, ihc h3⟩

/-- A leaf has its parts wherever another term has them. -/
theorem PartsAt.leaf {Lo : Nat} {w w' : World} {t : TD} {ps : Value} (h : PartsAt Lo w t ps) (hb : Below w.heap.size w w') (k n : Int) : PartsAt Lo w' (.leaf k n) (.slice none 0 0) := ⟨rfl, (h.keep hb).lo⟩

/-- A store below Lo meets no parts. -/
theorem PartsAt.under {Lo : Nat} {w : World} {t : TD} {ps : Value} (h : PartsAt Lo w t ps) {g : Nat} (hg : g < Lo) (i : Nat) (u : Value) : PartsAt Lo (w.setCell ⟨g, i, none⟩ u) t ps := by
  induction t generalizing ps with
  | leaf k n => exact ⟨h.1, by simpa using h.2⟩
  | two k a b iha ihb =>
    obtain ⟨g', pa, pb, e, lg, r, h1, h2⟩ := h
    exact ⟨g', pa, pb, e, lg, r.unset (by show g' ≠ g; omega) _, iha h1, ihb h2⟩
  | three k a b c iha ihb ihc =>
    obtain ⟨g', pa, pb, pc, e, lg, r, h1, h2, h3⟩ := h
    exact ⟨g', pa, pb, pc, e, lg, r.unset (by show g' ≠ g; omega) _, iha h1, ihb h2, ihc h3⟩

theorem row_one {w : World} {g : Nat} {t t' : TypeId} {xs ys : List Value} (h : Row w g t xs) (h' : Row w g t' ys) : xs = ys := by
  unfold Row at h h'
  rw [h] at h'
  simp only [Option.some.injEq, Obj.cells.injEq] at h'
  simpa using h'.1

/-- A block of one term is no list of parts. -/
theorem PartsAt.set {Lo : Nat} {w : World} {t : TD} {ps : Value} (h : PartsAt Lo w t ps) {g : Nat} {ty : TypeId} {xs : List Value} (hr : Row w g ty xs) (hx : xs.length = 5) (i : Nat) (u : Value) : PartsAt Lo (w.setCell ⟨g, i, none⟩ u) t ps := by
  induction t generalizing ps with
  | leaf k n => exact ⟨h.1, by simpa using h.2⟩
  | two k a b iha ihb =>
    obtain ⟨g', pa, pb, e, lg, r, h1, h2⟩ := h
    refine ⟨g', pa, pb, e, lg, r.unset (fun q => ?_) _, iha h1, ihb h2⟩
    have q' : g' = g := q
    subst q'
    have := row_one r hr
    rw [← this] at hx
    simp [tcells] at hx
  | three k a b c iha ihb ihc =>
    obtain ⟨g', pa, pb, pc, e, lg, r, h1, h2, h3⟩ := h
    refine ⟨g', pa, pb, pc, e, lg, r.unset (fun q => ?_) _, iha h1, ihb h2, ihc h3⟩
    have q' : g' = g := q
    subst q'
    have := row_one r hr
    rw [← this] at hx
    simp [tcells] at hx

/-- Five cells of a block are set. -/
def set5 (w : World) (g : Nat) (a b c d e : Value) : World :=
  ((((w.setCell ⟨g, 0, none⟩ a).setCell ⟨g, 1, none⟩ b).setCell ⟨g, 2, none⟩ c).setCell ⟨g, 3, none⟩ d).setCell ⟨g, 4, none⟩ e

theorem cbelow_set {w0 w : World} (h : Below w0.heap.size w0 w) {g i : Nat} (hg : w0.heap.size ≤ g) (u : Value) : Below w0.heap.size w0 (w.setCell ⟨g, i, none⟩ u) :=
  ⟨h.os, h.tape, h.output, by simpa using h.size, fun k hk => (Below.heap_setCell _ _ _ _ (by show k ≠ g; omega)).trans (h.block k hk)⟩

theorem set5_below {w0 w : World} (h : Below w0.heap.size w0 w) {g : Nat} (hg : w0.heap.size ≤ g) (a b c d e : Value) : Below w0.heap.size w0 (set5 w g a b c d e) :=
  cbelow_set (cbelow_set (cbelow_set (cbelow_set (cbelow_set h hg _) hg _) hg _) hg _) hg _

theorem PartsAt.on5 {Lo : Nat} {w : World} {t : TD} {ps : Value} (h : PartsAt Lo w t ps) {g : Nat} {ty : TypeId} {xs : List Value} (hr : Row w g ty xs) (hx : xs.length = 5) (a b c d e : Value) : PartsAt Lo (set5 w g a b c d e) t ps := by
  have r1 := hr.set 0 a
  have r2 := r1.set 1 b
  have r3 := r2.set 2 c
  have r4 := r3.set 3 d
  exact ((((h.set hr hx 0 a).set r1 (by simpa using hx) 1 b).set r2 (by simpa using hx) 2 c).set r3 (by simpa using hx) 3 d).set r4 (by simpa using hx) 4 e

theorem Row.on5 {w : World} {g : Nat} {ty : TypeId} {x0 x1 x2 x3 x4 : Value} (hr : Row w g ty [x0, x1, x2, x3, x4]) (a b c d e : Value) : Row (set5 w g a b c d e) g ty [a, b, c, d, e] :=
  ((((hr.set 0 a).set 1 b).set 2 c).set 3 d).set 4 e

theorem Row.off5 {w : World} {g g' : Nat} {ty : TypeId} {xs : List Value} (h : Row w g ty xs) (hg : g ≠ g') (a b c d e : Value) : Row (set5 w g' a b c d e) g ty xs :=
  ((((h.unset (a := ⟨g', 0, none⟩) hg a).unset (a := ⟨g', 1, none⟩) hg b).unset (a := ⟨g', 2, none⟩) hg c).unset (a := ⟨g', 3, none⟩) hg d).unset (a := ⟨g', 4, none⟩) hg e

def zT : List Value := [.int .i64 0, .int .i64 0, .slice none 0 0, .int .i64 0, .string ⟨#[]⟩]

theorem ckind_none {t : TD} (hf : t.fine) : ckind t ≠ 1 ↔ t.isNum = none := by
  cases t with
  | leaf k n => by_cases h : k = 100 <;> simp [ckind, TD.isNum, h]
  | two k a b => obtain ⟨h1, h2, _⟩ := hf; simp only [ckind, TD.isNum]; constructor; intro _; trivial; intro _; omega
  | three k a b c => obtain ⟨h1, _⟩ := hf; simp only [ckind, TD.isNum]; constructor; intro _; trivial; intro _; omega

theorem same_show {u v : TD} (hu : u.fine) (hv : v.fine) : ((str (showT u)).toList == (str (showT v)).toList) = sameT u v := by
  simp only [str, ByteArray.toList_mk]
  by_cases h : u = v
  · subst h; rw [sameT_self]; simp
  · rw [sameT_ne h]
    simp only [beq_eq_false_iff_ne, ne_eq]
    exact fun e => h (show_inj hu.ok hv.ok e)

set_option maxRecDepth 100000 in
set_option maxHeartbeats 1000000 in
theorem cNumber_any (k n s : Int) (ps : Value) (x : ByteArray) (w : World) :
    Calls Tryz.prog 164 #[.agg #[.int .i64 k, .int .i64 n, ps, .int .i64 s, .string x]] w fun e w' => e = .returned (.tuple #[.int .i64 (if k = 1 then n else 0), .bool (k == 1)]) ∧ Below w.heap.size w w' := by
  have hb : Below w.heap.size w (w.alloc (.cells #[.int .i64 k, .int .i64 n, ps, .int .i64 s, .string x] 179)) := (Below.refl _ _).alloc (Nat.le_refl _) _
  by_cases h : k = 1
  · subst h
    go_enter Tryz.func164, Tryz.ntmps164
    go_wp2
    go_ret2
    exact ⟨rfl, hb⟩
  · have hd : (k == 1) = false := by simp [h]
    rw [if_neg h, hd]
    go_enter Tryz.func164, Tryz.ntmps164
    go_wp2
    go_ret2
    exact ⟨rfl, hb⟩

set_option maxRecDepth 100000 in
set_option maxHeartbeats 1000000 in
theorem cSame_any (u v : TD) (pu pv : Value) (fu : u.fine) (fv : v.fine) (w : World) :
    Calls Tryz.prog 134 #[termV u pu, termV v pv] w fun e w' => e = .returned (.bool (sameT u v)) ∧ Below w.heap.size w w' := by
  have hb : Below w.heap.size w ((w.alloc (.cells #[.int .i64 (ckind u), .int .i64 (cval u), pu, .int .i64 u.size, .string (str (showT u))] 179)).alloc (.cells #[.int .i64 (ckind v), .int .i64 (cval v), pv, .int .i64 v.size, .string (str (showT v))] 179)) := ((Below.refl _ _).alloc (Nat.le_refl _) _).alloc (by simp) _
  have e := same_show fu fv
  unfold termV
  rw [← e]
  clear e
  generalize str (showT u) = X at *
  generalize str (showT v) = Y at *
  go_enter Tryz.func134, Tryz.ntmps134
  go_wp2
  go_ret
  exact ⟨rfl, hb⟩

set_option maxRecDepth 100000 in
set_option maxHeartbeats 1000000 in
theorem cSign_any (k : Int) (hk : 3 ≤ k ∧ k ≤ 13) (w : World) : Calls Tryz.prog 226 #[.int .i64 k] w fun e w' => e = .returned (.string (str [signT k])) ∧ w = w' := by
  have h : k = 3 ∨ k = 4 ∨ k = 5 ∨ k = 6 ∨ k = 7 ∨ k = 8 ∨ k = 9 ∨ k = 10 ∨ k = 11 ∨ k = 12 ∨ k = 13 := by omega
  rcases h with rfl | rfl | rfl | rfl | rfl | rfl | rfl | rfl | rfl | rfl | rfl
  all_goals
    go_enter Tryz.func226, Tryz.ntmps226
    go_wp2
    go_ret
    exact ⟨rfl, rfl⟩

set_option maxRecDepth 100000 in
set_option maxHeartbeats 1000000 in
theorem cText_any (k n s : Int) (ps : Value) (x : ByteArray) (w : World) :
    Calls Tryz.prog 148 #[.agg #[.int .i64 k, .int .i64 n, ps, .int .i64 s, .string x]] w fun e w' => e = .returned (.string x) ∧ Below w.heap.size w w' := by
  have hb : Below w.heap.size w (w.alloc (.cells #[.int .i64 k, .int .i64 n, ps, .int .i64 s, .string x] 179)) := (Below.refl _ _).alloc (Nat.le_refl _) _
  go_enter Tryz.func148, Tryz.ntmps148
  go_wp2
  go_ret
  exact ⟨rfl, hb⟩

set_option maxRecDepth 100000 in
set_option maxHeartbeats 1000000 in
theorem cSize_any (k n s : Int) (ps : Value) (x : ByteArray) (w : World) :
    Calls Tryz.prog 220 #[.agg #[.int .i64 k, .int .i64 n, ps, .int .i64 s, .string x]] w fun e w' => e = .returned (.int .i64 s) ∧ Below w.heap.size w w' := by
  have hb : Below w.heap.size w (w.alloc (.cells #[.int .i64 k, .int .i64 n, ps, .int .i64 s, .string x] 179)) := (Below.refl _ _).alloc (Nat.le_refl _) _
  go_enter Tryz.func220, Tryz.ntmps220
  go_wp2
  go_ret
  exact ⟨rfl, hb⟩

end Go.Proofs.YtblhmeidbjigaabGreatDoor

/- What came out so far, and its copies: the state of the law All. -/
set_option linter.unusedSimpArgs false
set_option linter.unusedVariables false
namespace Go.Proofs.YtblhmeidbjigaabGreatDoor
open Go.RowKit

structure PI where
  a0 : Int
  a1 : Int
  a2 : Int
  a3 : Int
  v : Value
  v2 : Value
  l : List BlockD
structure HI where
  v : Value
  v2 : Value
  l : List PingD
structure OI where
  k : Int
  r : Int
  m : Value
  m2 : Value
  q : Value
  q2 : Value
  lm : List Int
  lq : List Int
structure MI where
  v : Value
  v2 : Value
  l : List (List UInt8)

def pC (x : PI) (u : Value) : List Value := [.int .i64 x.a0, .int .i64 x.a1, .int .i64 x.a2, .int .i64 x.a3, u]
def oC (x : OI) (u y : Value) : List Value := [.int .i64 x.k, .int .i64 x.r, u, y]
def cP1 (l : List PI) : List Value := l.flatMap fun x => pC x x.v
def cP2 (l : List PI) : List Value := l.flatMap fun x => pC x x.v2
def cH1 (l : List HI) : List Value := l.flatMap fun x => [x.v]
def cH2 (l : List HI) : List Value := l.flatMap fun x => [x.v2]
def cO1 (l : List OI) : List Value := l.flatMap fun x => oC x x.m x.q
def cO2 (l : List OI) : List Value := l.flatMap fun x => oC x x.m2 x.q2
def cM1 (l : List MI) : List Value := l.flatMap fun x => [x.v]
def cM2 (l : List MI) : List Value := l.flatMap fun x => [x.v2]

/-- A place in a row of things of one size. -/
theorem flat_get {α : Type} (f : α → List Value) (sz : Nat) (hf : ∀ x, (f x).length = sz) : ∀ (l : List α) (i j : Nat) (hi : i < l.length), j < sz → (l.flatMap f)[i * sz + j]? = (f l[i])[j]? := by
  intro l
  induction l with
  | nil => intro i j hi; simp at hi
  | cons x l ih =>
    intro i j hi hj
    cases i with
    | zero =>
      rw [List.flatMap_cons, Nat.zero_mul, Nat.zero_add, List.getElem?_append_left (by rw [hf]; exact hj)]
      rfl
    | succ i =>
      have e : (i + 1) * sz + j = (f x).length + (i * sz + j) := by rw [hf, Nat.succ_mul]; omega
      rw [List.flatMap_cons, e, List.getElem?_append_right (by omega), Nat.add_sub_cancel_left]
      exact ih i j (by simpa using hi) hj

structure AOk (w : World) (cnt : Nat → Nat) (cel : Nat → List Value) (ps : List PI) (hs : List HI) (os : List OI) (ms : List MI) : Prop where
  n0 : cnt 0 = ps.length
  n1 : cnt 1 = ps.length
  n2 : cnt 2 = hs.length
  n3 : cnt 3 = hs.length
  n4 : cnt 4 = os.length
  n5 : cnt 5 = os.length
  n6 : cnt 6 = ms.length
  n7 : cnt 7 = ms.length
  c0 : cel 0 = cP1 ps
  c1 : cel 1 = cP2 ps
  c2 : cel 2 = cH1 hs
  c3 : cel 3 = cH2 hs
  c4 : cel 4 = cO1 os
  c5 : cel 5 = cO2 os
  c6 : cel 6 = cM1 ms
  c7 : cel 7 = cM2 ms
  okp : ∀ x ∈ ps, InT w (fun w' => RdBlocks w' x.v x.l) ∧ InT w (fun w' => RdBlocks w' x.v2 x.l)
  okh : ∀ x ∈ hs, InT w (fun w' => RdHint w' x.v x.l) ∧ InT w (fun w' => RdHint w' x.v2 x.l)
  oko : ∀ x ∈ os, (InT w (fun w' => RdWords w' x.m x.lm) ∧ InT w (fun w' => RdWords w' x.m2 x.lm)) ∧ (InT w (fun w' => RdWords w' x.q x.lq) ∧ InT w (fun w' => RdWords w' x.q2 x.lq))
  okm : ∀ x ∈ ms, InT w (fun w' => RdTexts w' x.v x.l) ∧ InT w (fun w' => RdTexts w' x.v2 x.l)

theorem AOk.next {w w' : World} {cnt : Nat → Nat} {cel : Nat → List Value} {ps : List PI} {hs : List HI} {os : List OI} {ms : List MI} (h : AOk w cnt cel ps hs os ms) (s : Same6 w w') : AOk w' cnt cel ps hs os ms :=
  ⟨h.n0, h.n1, h.n2, h.n3, h.n4, h.n5, h.n6, h.n7, h.c0, h.c1, h.c2, h.c3, h.c4, h.c5, h.c6, h.c7, fun x hx => ⟨(h.okp x hx).1.next s, (h.okp x hx).2.next s⟩, fun x hx => ⟨(h.okh x hx).1.next s, (h.okh x hx).2.next s⟩,
    fun x hx => ⟨⟨(h.oko x hx).1.1.next s, (h.oko x hx).1.2.next s⟩, ⟨(h.oko x hx).2.1.next s, (h.oko x hx).2.2.next s⟩⟩, fun x hx => ⟨(h.okm x hx).1.next s, (h.okm x hx).2.next s⟩⟩

/-- The state behind n steps; the box is the first block behind w0. -/
structure ASt (w0 w : World) (n : Nat) (val : Nat → Value) (cnt : Nat → Nat) (cel : Nat → List Value) (ps : List PI) (hs : List HI) (os : List OI) (ms : List MI) : Prop where
  mem : Mem8 w w0.heap.size n val cnt cel
  ok : AOk w cnt cel ps hs os ms
  lp : ps.length ≤ n
  lh : hs.length ≤ n
  lo : os.length ≤ n
  lm : ms.length ≤ n
  below : Below w0.heap.size w0 w

section
variable {w0 w w' : World} {n : Nat} {val : Nat → Value} {cnt : Nat → Nat} {cel : Nat → List Value} {ps : List PI} {hs : List HI} {os : List OI} {ms : List MI}

theorem ASt.keep (h : ASt w0 w n val cnt cel ps hs os ms) (hb : Below w.heap.size w w') : ASt w0 w' n val cnt cel ps hs os ms :=
  ⟨h.mem.below hb, h.ok.next (Same6.of_below hb), h.lp, h.lh, h.lo, h.lm, h.below.trans (hb.mono h.below.size)⟩

theorem ASt.count (h : ASt w0 w n val cnt cel ps hs os ms) : ASt w0 (w.setCell ⟨w0.heap.size, 0, none⟩ (.int .i64 ((n : Int) + 1))) (n + 1) val cnt cel ps hs os ms := by
  obtain ⟨m, s⟩ := h.mem.count ((n : Int) + 1)
  exact ⟨m, h.ok.next s, by have := h.lp; omega, by have := h.lh; omega, by have := h.lo; omega, by have := h.lm; omega, h.below.setCell (p := ⟨w0.heap.size, 0, none⟩) (Nat.le_refl _) _⟩

end

theorem Tryz.infoProgA : (Tryz.prog.info? 25).map (fun i => (i.zero, i.size, i.bytes)) = some (some (.agg #[.int .i64 0, .int .i64 0, .int .i64 0, .int .i64 0, .slice none 0 0]), 5, 56) := by kernel_rfl
theorem Tryz.infoHintA : (Tryz.prog.info? 30).map (fun i => (i.zero, i.size, i.bytes)) = some (some (.agg #[.slice none 0 0]), 1, 24) := by kernel_rfl
theorem Tryz.infoOutA : (Tryz.prog.info? 63).map (fun i => (i.zero, i.size, i.bytes)) = some (some (.agg #[.int .i64 0, .int .i64 0, .slice none 0 0, .slice none 0 0]), 4, 64) := by kernel_rfl
theorem Tryz.infoStrsA : (Tryz.prog.info? 105).map (fun i => (i.zero, i.size, i.bytes)) = some (some (.slice none 0 0), 1, 24) := by kernel_rfl

theorem step_append_own_at {P : Program} {ops : Array Oper} {o : Oper} {a : Act} {w : World} {K : Act → World → Prop} {Q : Exit → Act → World → Prop} {E : Prop} (hg : o.guard = none) (s x : Operand) (t : TypeId)
    (ho : o.op = .call { callee := .builtin .append, args := #[s, x], argTypes := #[t, t] })
    (base : Nat) (e : TypeId) (i : TypeInfo) (z : Value) (size bytes : Nat) (ht : P.underlying t = some (.slice e)) (hi : P.info? e = some i) (hz : i.zero = some z)
    (hsize : i.size = size) (hby : i.bytes = bytes) (hzs : z.cells.size = size) (hsz : 0 < size)
    (v : Value) (n : Nat) (xs : List Value) (hs : a.eval s = v) (hown : w.ownsRow base e size v n xs)
    (ad : Addr) (m c : Nat) (news : List Value) (hx : a.eval x = .slice (some ad) m c) (hl : news.length = m * size) (hnews : ∀ j u, news[j]? = some u → w.cell? (ad.add j) = some u) (h1 : ∀ u ∈ news, u.oneCell' = true)
    (h63 : n + m ≤ maxLen) (hbytes : (n + m) * bytes ≤ 140737488355328) (hbase : base ≤ w.heap.size)
    (h : ∀ v' w', w'.ownsRow base e size v' (n + m) (xs ++ news) → w.grownBy w' v.ownBlock → (v'.ownBlock = v.ownBlock ∨ v'.ownBlock = some w.heap.size) → K (a.put o.dst v') w') :
    if Region.wanted o (yielded ops a.tmps) = true then Oper.wp P o a w K Q else E := by
  have hw : Region.wanted o (yielded ops a.tmps) = true := by simp [Region.wanted, hg]
  rw [if_pos hw]
  obtain ⟨v', w', hr, h2, h3, h4, h5⟩ := run_append_own_at (P := P) w base t o.type e i z size bytes ht hi hz hsize hby hzs hsz v n xs hown ad m c news hl hnews h1 h63 hbytes hbase
  unfold Oper.wp execOp
  simp only [ho, resolve, invoke, builtin, Sem.run_bind, Sem.run_pure, Result.andThen_ok, List.map_toArray, List.map_cons, List.map_nil, hs, hx, hr]
  exact h v' w' h2 h3 h5

end Go.Proofs.YtblhmeidbjigaabGreatDoor
