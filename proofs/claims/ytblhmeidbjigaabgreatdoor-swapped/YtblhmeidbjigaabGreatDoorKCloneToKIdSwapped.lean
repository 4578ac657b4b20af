/- A program with lists of its own (twinkeep.clone). -/
import Derived.Test.YtblhmeidbjigaabGreatDoorRows
import Derived.WalkKit
import Derived.WalkSpells
import Derived.WalkLawsBesides
import Derived.Laws.BytesArg
import Derived.Deep.QuietTactic
import Derived.BigQuiet
import Derived.Deep.RegionHeld3
import Derived.Lib.ItoaNum
import Derived.Lib.ItoaLen
import Derived.OpenShut
import Derived.Maps.AppendAt
import Derived.Shelf.Strconv.Itoa3
import Derived.Shelf.Lay
import Derived.Ground.NamesProg
import Derived.Lib.SmallJoins
import Derived.Lib.Hide
import Derived.StillTailTactics
import Derived.Deep.RegionLaw
import Derived.BigRegion
import Derived.Deep.AppendLies
import Derived.Test.YtblhmeidbjigaabGreatDoorKLooseToRTrHSwapped

set_option linter.unusedSimpArgs false
set_option linter.unusedVariables false
namespace Go.Proofs.YtblhmeidbjigaabGreatDoor
open Go.RowKit

theorem step_append_own {P : Program} {ops : Array Oper} {o : Oper} {a : Act} {w : World} {K : Act → World → Prop} {Q : Exit → Act → World → Prop} {E : Prop} (hg : o.guard = none) (s x : Operand) (t : TypeId)
    (ho : o.op = .call { callee := .builtin .append, args := #[s, x], argTypes := #[t, t] })
    (base : Nat) (e : TypeId) (i : TypeInfo) (z : Value) (size bytes : Nat) (ht : P.underlying t = some (.slice e)) (hi : P.info? e = some i) (hz : i.zero = some z)
    (hsize : i.size = size) (hby : i.bytes = bytes) (hzs : z.cells.size = size) (hsz : 0 < size)
    (v : Value) (n : Nat) (xs : List Value) (hs : a.eval s = v) (hown : w.ownsRow base e size v n xs)
    (ad : Addr) (m c : Nat) (news : List Value) (hx : a.eval x = .slice (some ad) m c) (hl : news.length = m * size) (hnews : ∀ j u, news[j]? = some u → w.cell? (ad.add j) = some u) (h1 : ∀ u ∈ news, u.oneCell' = true)
    (h63 : n + m ≤ maxLen) (hbytes : (n + m) * bytes ≤ 140737488355328) (hbase : base ≤ w.heap.size)
    (h : ∀ v' w', w'.ownsRow base e size v' (n + m) (xs ++ news) → w.grownBy w' v.ownBlock → (v' = .slice none 0 0 ↔ v = .slice none 0 0 ∧ m = 0) → K (a.put o.dst v') w') :
    if Region.wanted o (yielded ops a.tmps) = true then Oper.wp P o a w K Q else E := by
  have hw : Region.wanted o (yielded ops a.tmps) = true := by simp [Region.wanted, hg]
  rw [if_pos hw]
  exact wp_append_own w s x t ho base e i z size bytes ht hi hz hsize hby hzs hsz v n xs hs hown ad m c news hx hl hnews h1 h63 hbytes hbase h

theorem take_opsD {l : List OpD} {i : Nat} (h : i < l.length) : l.take (i + 1) = l.take i ++ [⟨okind l i, oa l i, ob l i, oc l i⟩] := take_getD l oz i h
theorem take_blksD {l : List BlockD} {i : Nat} (h : i < l.length) : l.take (i + 1) = l.take i ++ [⟨bops l i, ⟨bek l i, ber l i, bex l i, bey l i⟩⟩] := take_getD l bz i h

theorem bdat_snoc (bv : List (BlockD × Value)) (x : BlockD) (v : Value) : bdat (bv ++ [(x, v)]) = bdat bv ++ [x] := by simp [bdat]

set_option maxRecDepth 100000 in
set_option maxHeartbeats 8000000 in
theorem clone_cps (a0 a1 a2 a3 : Int) (po : Option Addr) (pc : Nat) (l : List BlockD) (w : World) (hr : RdBlocks w (.slice po l.length pc) l) (hl : l.length ≤ 6) (hops : ∀ b, b < l.length → (bops l b).length ≤ 12) (Post : Ending → World → Prop)
    (hp : ∀ v bv w', Hid (bdat bv = l) → OwnBlocks w' w.heap.size v bv → Below w.heap.size w w' → Post (.returned (.agg #[.int .i64 a0, .int .i64 a1, .int .i64 a2, .int .i64 a3, v])) w') :
    Calls Tryz.prog 11 #[.agg #[.int .i64 a0, .int .i64 a1, .int .i64 a2, .int .i64 a3, .slice po l.length pc]] w Post := by
  obtain ⟨i0, ii, iz0, iz1, iz2⟩ := info_parts Tryz.infoBlk
  obtain ⟨j0, ji, jz0, jz1, jz2⟩ := info_parts Tryz.infoOp
  obtain ⟨po', pc', e0, hll, hcc⟩ := hr
  simp only [Value.slice.injEq, true_and] at e0
  obtain ⟨rfl, rfl⟩ := e0
  obtain ⟨A, hA⟩ : ∃ A, A = ((w.alloc (.cells #[.int .i64 a0, .int .i64 a1, .int .i64 a2, .int .i64 a3, .slice po l.length pc] 25)).alloc (.cells #[.int .i64 0, .int .i64 0, .int .i64 0, .int .i64 0, .slice none 0 0] 25)).alloc (.cells #[.int .i64 a0, .int .i64 a1, .int .i64 a2, .int .i64 a3, .slice none 0 0] 25) := ⟨_, rfl⟩
  have rP : Row A w.heap.size 25 [.int .i64 a0, .int .i64 a1, .int .i64 a2, .int .i64 a3, .slice po l.length pc] := by subst hA; exact Row.alloc (Row.alloc (heap_alloc_new w _) _) _
  have rZ : Row A (w.heap.size + 1) 25 [.int .i64 0, .int .i64 0, .int .i64 0, .int .i64 0, .slice none 0 0] := by subst hA; exact Row.alloc (heap_alloc2_new w _ _) _
  have rQ : Row A (w.heap.size + 2) 25 [.int .i64 a0, .int .i64 a1, .int .i64 a2, .int .i64 a3, .slice none 0 0] := by
    subst hA
    have q := heap_alloc2_new (w.alloc (.cells #[.int .i64 a0, .int .i64 a1, .int .i64 a2, .int .i64 a3, .slice po l.length pc] 25)) (.cells #[.int .i64 0, .int .i64 0, .int .i64 0, .int .i64 0, .slice none 0 0] 25) (.cells #[.int .i64 a0, .int .i64 a1, .int .i64 a2, .int .i64 a3, .slice none 0 0] 25)
    simp only [World.size_alloc] at q
    exact q
  have ke : Keep (fun _ => False) w A := by subst hA; exact (((Keep.refl _ _).alloc _).alloc _).alloc _
  have hz : w.heap.size + 3 ≤ A.heap.size := by subst hA; simp
  have HA := Lib.hid hA
  clear hA
  go_enter Tryz.func11, Tryz.ntmps11
  go_wp2
  rw [← HA.out]
  clear HA
  go_loopw [4] (fun i wr => ∃ (j : Nat) (v : Value) (bv : List (BlockD × Value)), j ≤ l.length ∧ i = .int .i64 j ∧ Hid (bv.length = j) ∧ Hid (bdat bv = l.take j) ∧ Row wr w.heap.size 25 [.int .i64 a0, .int .i64 a1, .int .i64 a2, .int .i64 a3, .slice po l.length pc] ∧ Row wr (w.heap.size + 1) 25 [.int .i64 0, .int .i64 0, .int .i64 0, .int .i64 0, .slice none 0 0] ∧ Row wr (w.heap.size + 2) 25 [.int .i64 a0, .int .i64 a1, .int .i64 a2, .int .i64 a3, v] ∧
      OwnBlocks wr (w.heap.size + 3) v bv ∧ Keep (fun _ => False) w wr ∧ w.heap.size + 3 ≤ wr.heap.size)
    (fun i _ => l.length - (intOf i).toNat)
  case atStart => exact ⟨0, .slice none 0 0, [], Nat.zero_le _, rfl, rfl, rfl, rP, rZ, rQ, ownBlocks_nil _ _, ke, hz⟩
  case round =>
    clear rP rZ rQ ke hz A
    rename World => w1
    obtain ⟨j, v, bv, hj, rfl, hvl, hbd, rP, rZ, rQ, own, ke, hz⟩ := hrel
    obtain ⟨bo, bc, rfl⟩ := owns_slice own.row
    have c4 := rP.cell (i := 4) rfl
    by_cases hlt : j < l.length
    · obtain ⟨bb, off, sv, rfl, y0, y1, y2, y3, y4, hro⟩ := hcc j hlt
      obtain ⟨so, sc, rfl, hol, hoc⟩ := id hro
      have kb : Below w.heap.size w w1 := ke.toBelow (Nat.le_refl _) (fun g hg => hg.elim)
      have z0 := cell_keep kb y0
      have z1 := cell_keep kb y1
      have z2 := cell_keep kb y2
      have z3 := cell_keep kb y3
      have z4 := cell_keep kb y4
      have hn12 := hops j hlt
      have HS : Hid (l.take (j + 1) = l.take j ++ [⟨bops l j, ⟨bek l j, ber l j, bex l j, bey l j⟩⟩]) := take_blksD hlt
      have hji : (0 : Int) ≤ (j : Int) := by omega
      have hjj : (j : Int) < (l.length : Int) := by omega
      generalize bek l j = ek at *
      generalize ber l j = er at *
      generalize bex l j = ex at *
      generalize bey l j = ey at *
      generalize bops l j = os at *
      have rX1 : Row (w1.alloc (.cells #[.slice none 0 0, .int .i64 ek, .int .i64 er, .int .i64 ex, .int .i64 ey] 42)) w1.heap.size 42 [.slice none 0 0, .int .i64 ek, .int .i64 er, .int .i64 ex, .int .i64 ey] := heap_alloc_new w1 _
      have keX : Keep (fun _ => False) w1 (w1.alloc (.cells #[.slice none 0 0, .int .i64 ek, .int .i64 er, .int .i64 ex, .int .i64 ey] 42)) := (Keep.refl _ _).alloc _
      have w1z : w1.heap.size + 1 ≤ (w1.alloc (.cells #[.slice none 0 0, .int .i64 ek, .int .i64 er, .int .i64 ex, .int .i64 ey] 42)).heap.size := by simp
      clear y1 y2 y3 y4 hcc
      go_wp2
      go_loopw [6] (fun i wi => ∃ (p : Nat) (sv : Value), p ≤ os.length ∧ i = .int .i64 p ∧ Row wi w1.heap.size 42 [sv, .int .i64 ek, .int .i64 er, .int .i64 ex, .int .i64 ey] ∧ wi.ownsRow (w1.heap.size + 1) 36 4 sv p (opCells (os.take p)) ∧
          Keep (fun _ => False) w1 wi ∧ w1.heap.size + 1 ≤ wi.heap.size)
        (fun i _ => os.length - (intOf i).toNat)
      case atStart => exact ⟨0, _, by omega, rfl, rX1, World.ownsRow_nil _ _ _ _, keX, w1z⟩
      case round =>
        clear rX1 keX w1z c4 z0 z1 z2 z3 z4
        obtain ⟨p, sv, hpp, rfl, rX, pown, kei, hzi⟩ := hrel
        obtain ⟨xo, xc, rfl⟩ := owns_slice pown
        have rP2 := rP.kept kei (fun h => h)
        have kb2 : Below w.heap.size w wr := kb.trans ((kei.toBelow (Nat.le_refl _) (fun g hg => hg.elim)).mono kb.size)
        have d4 := rP2.cell (i := 4) rfl
        have t0 := cell_keep kb2 y0
        by_cases hp16 : p < os.length
        · obtain ⟨b2, off2, rfl, e0, e1, e2, e3⟩ := hoc p hp16
          have a0d := rX.cell (i := 0) rfl
          have a0f : ∀ o, (wr.alloc o).cell? ⟨w1.heap.size, 0, none⟩ = some (.slice xo p xc) := fun o => (rX.alloc o).cell (i := 0) rfl
          have g0 := cell_keep kb2 e0
          have g1 := cell_keep kb2 e1
          have g2 := cell_keep kb2 e2
          have g3 := cell_keep kb2 e3
          have hpi : (0 : Int) ≤ (p : Int) := by omega
          have hpj : (p : Int) < (os.length : Int) := by omega
          have HT : Hid (opCells (os.take (p + 1)) = opCells (os.take p) ++ [.int .i64 (okind os p), .int .i64 (oa os p), .int .i64 (ob os p), .int .i64 (oc os p)]) := by show _ = _; rw [take_opsD hp16, opCells_snoc]
          clear e0 e1 e2 e3 hoc rP2
          generalize okind os p = o0 at *
          generalize oa os p = o1 at *
          generalize ob os p = o2 at *
          generalize oc os p = o3 at *
          go_wp2
          go_region_law (refine step_append_own rfl (.tmp 35) (.tmp 45) 34 rfl (w1.heap.size + 1) 36 j0 (.agg #[.int .i64 0, .int .i64 0, .int .i64 0, .int .i64 0]) 4 32 Tryz.underlying34 ji jz0 jz1 jz2 rfl (by decide) (.slice xo p xc) p (opCells (os.take p)) (by first | rfl | simp [Act.eval, Act.put]) (owns_below (pown.alloc _) ((Below.refl _ _).drew) (Nat.le_refl _)) ⟨wr.heap.size, 0, none⟩ 1 1 [.int .i64 o0, .int .i64 o1, .int .i64 o2, .int .i64 o3] (by first | rfl | simp [Act.eval, Act.put]) rfl (by intro j u hj; exact four_new wr (.int .i64 o0) (.int .i64 o1) (.int .i64 o2) (.int .i64 o3) 36 j u hj) four_one (by unfold maxLen; omega) (by omega) (by first | omega | (simp; omega)) ?_; intro v' w5 hown5 hgrow5 _; rw [← HT.out] at hown5; have hb5 := (((Below.refl (w1.heap.size + 1) wr).alloc hzi (.cells #[.int .i64 o0, .int .i64 o1, .int .i64 o2, .int .i64 o3] 36)).drew).grown hgrow5 (by simp; omega) (fun g hg => (pown.lt g hg).1); have rX5 := rX.below hb5 (by omega); have ke5 := kei.below hb5 (by omega); have hz5 := hb5.size; have y0' := rX5.cell (i := 0) rfl; have yf := rX5.frozen 0; obtain ⟨bo', bc', hvv⟩ := owns_slice hown5; subst hvv; have rX6 := rX5.set 0 (.slice bo' (p + 1) bc'); have ke6 := ke5.setCell (p := ⟨w1.heap.size, 0, none⟩) (.inr (Nat.le_refl _)) (.slice bo' (p + 1) bc'); have own6 := ownsRow_setCell_below hown5 (a := ⟨w1.heap.size, 0, none⟩) (by show w1.heap.size < w1.heap.size + 1; omega) (.slice bo' (p + 1) bc'))
          all_goals (
            clear rX5 ke5 hown5 hgrow5 hb5 rX pown kei a0d g0 g1 g2 g3 t0 d4 a0f
            go_wp2
            go_roundw
            case rel => exact ⟨p + 1, _, by omega, by go_num, rX6, own6, ke6, by simp; omega⟩
            case measure => simp [intOf]; omega)
        · obtain rfl : p = os.length := by omega
          rw [List.take_length] at pown
          have rZ2 := rZ.kept kei (fun h => h)
          have rQ2 := rQ.kept kei (fun h => h)
          have own2 := own.apartFrom kei (fun g hg => hg.elim)
          have ke2 := ke.trans kei
          have hzl : w.heap.size + 3 ≤ wr.heap.size := by omega
          have h4 := rQ2.cell (i := 4) rfl
          have x0' := rX.cell (i := 0) rfl
          have x1' := rX.cell (i := 1) rfl
          have x2' := rX.cell (i := 2) rfl
          have x3' := rX.cell (i := 3) rfl
          have x4' := rX.cell (i := 4) rfl
          have hfree : ∀ y ∈ bv, ∀ g, y.2.ownBlock = some g → (Value.slice xo os.length xc).ownBlock ≠ some g := by
            intro y hy g hg e
            have q1 := ((own.each y hy).lt g hg).2
            have q2 := (pown.lt g e).1
            omega
          have HG : Hid (bdat (bv ++ [(⟨os, ⟨ek, er, ex, ey⟩⟩, Value.slice xo os.length xc)]) = l.take (j + 1)) := by
            show _ = _
            rw [bdat_snoc, hbd.out, HS.out]
          have pown2 := owns_base pown (show w.heap.size + 3 ≤ _ by omega)
          clear rP rZ rQ own ke kei pown hbd rX hoc kb kb2 y0
          go_wp2_with (at_builtin; refine wpList_append_own _ rfl _ _ 23 rfl (w.heap.size + 3) 42 i0 (.agg #[.slice none 0 0, .int .i64 0, .int .i64 0, .int .i64 0, .int .i64 0]) 5 56 Tryz.underlying23 ii iz0 iz1 iz2 rfl (by decide) _ _ _ rfl (own2.row.alloc _) ⟨wr.heap.size, 0, none⟩ 1 1 [.slice xo os.length xc, .int .i64 ek, .int .i64 er, .int .i64 ex, .int .i64 ey] rfl rfl ?c21 five_one ?c23 ?c24 ?c25 ?_)
          try (case c21 => simpa using five_new wr _ _ _ _ _ _)
          case c23 => have := hvl.out; unfold maxLen; omega
          case c24 => have := hvl.out; omega
          case c25 => first | omega | (simp; omega)
          intro v' w7 hown' hgrow _
          have own7 : OwnBlocks w7 (w.heap.size + 3) v' (bv ++ [(⟨os, ⟨ek, er, ex, ey⟩⟩, .slice xo os.length xc)]) := (own2.alloc _).snoc (pown2.alloc _) hfree hgrow hown'
          have hb7 := (((Below.refl (w.heap.size + 3) wr).alloc hzl _).grown hgrow (by simp; omega) (fun g hg => (own2.row.lt g hg).1))
          have rP7 := rP2.below hb7 (by omega)
          have rZ7 := rZ2.below hb7 (by omega)
          have rQ7 := rQ2.below hb7 (by omega)
          have ke7 := ke2.below hb7 (by omega)
          have hz7 := hb7.size
          have y4 := rQ7.cell (i := 4) rfl
          have yf := rQ7.frozen 4
          obtain ⟨bo', bc', hv'⟩ := owns_slice own7.row
          rw [List.length_append] at hv'
          simp only [List.length_cons, List.length_nil, Nat.zero_add] at hv'
          subst hv'
          have rQ8 := rQ7.set 4 (.slice bo' (bv.length + 1) bc')
          have rP8 := rP7.unset (a := ⟨w.heap.size + 2, 4, none⟩) (by show w.heap.size ≠ w.heap.size + 2; omega) (.slice bo' (bv.length + 1) bc')
          have rZ8 := rZ7.unset (a := ⟨w.heap.size + 2, 4, none⟩) (by show w.heap.size + 1 ≠ w.heap.size + 2; omega) (.slice bo' (bv.length + 1) bc')
          have ke8 := ke7.setCell (p := ⟨w.heap.size + 2, 4, none⟩) (.inr (by show w.heap.size ≤ w.heap.size + 2; omega)) (.slice bo' (bv.length + 1) bc')
          have own8 := own7.set (a := ⟨w.heap.size + 2, 4, none⟩) (by show w.heap.size + 2 < w.heap.size + 3; omega) (.slice bo' (bv.length + 1) bc')
          clear hgrow hown' hb7 rP2 rZ2 rQ2 own2 ke2 h4 x0' x1' x2' x3' x4' rP7 rZ7 rQ7 ke7 own7 pown2 hfree d4 t0
          go_wp2
          go_roundw
          case rel => exact ⟨j + 1, _, _, by omega, by go_num, by show List.length _ = _; have := hvl.out; simp; exact this, HG, rP8, rZ8, rQ8, own8, ke8, by simp; omega⟩
          case measure => simp [intOf]; omega
    · obtain rfl : j = l.length := by omega
      rw [List.take_length] at hbd
      have b0 := rQ.cell (i := 0) rfl
      have z0 := rZ.cell (i := 0) rfl
      have f0 := rZ.frozen 0
      have b1 := rQ.cell (i := 1) rfl
      have z1 := rZ.cell (i := 1) rfl
      have f1 := rZ.frozen 1
      have b2 := rQ.cell (i := 2) rfl
      have z2 := rZ.cell (i := 2) rfl
      have f2 := rZ.frozen 2
      have b3 := rQ.cell (i := 3) rfl
      have z3 := rZ.cell (i := 3) rfl
      have f3 := rZ.frozen 3
      have b4 := rQ.cell (i := 4) rfl
      have z4 := rZ.cell (i := 4) rfl
      have f4 := rZ.frozen 4
      have HF : Hid (Post (.returned (.agg #[.int .i64 a0, .int .i64 a1, .int .i64 a2, .int .i64 a3, .slice bo bv.length bc])) (((((w1.setCell ⟨w.heap.size + 1, 0, none⟩ (.int .i64 a0)).setCell ⟨w.heap.size + 1, 1, none⟩ (.int .i64 a1)).setCell ⟨w.heap.size + 1, 2, none⟩ (.int .i64 a2)).setCell ⟨w.heap.size + 1, 3, none⟩ (.int .i64 a3)).setCell ⟨w.heap.size + 1, 4, none⟩ (.slice bo bv.length bc))) :=
        hp (.slice bo bv.length bc) bv _ hbd ((((((own.set (by simp) _).set (by simp) _).set (by simp) _).set (by simp) _).set (by simp) _).base (by omega))
          ((((((ke.setCell (.inr (by simp)) _).setCell (.inr (by simp)) _).setCell (.inr (by simp)) _).setCell (.inr (by simp)) _).setCell (.inr (by simp)) _).toBelow (Nat.le_refl _) (fun g hg => hg.elim))
      clear hp own ke rP rZ rQ hcc
      go_wp2
      exact bodyPost_ret (v := .agg #[.int .i64 a0, .int .i64 a1, .int .i64 a2, .int .i64 a3, .slice bo bv.length bc]) (by simp [results, Tryz.results11, go_sem, z0, z1, z2, z3, z4]) rfl HF.out

end Go.Proofs.YtblhmeidbjigaabGreatDoor

/- A program without slots out of raw numbers, of lo to hi registers, with at most ops operations in a block. -/
set_option linter.unusedSimpArgs false
set_option linter.unusedVariables false
namespace Go.Proofs.YtblhmeidbjigaabGreatDoor
open Go.RowKit

set_option maxRecDepth 100000 in
set_option maxHeartbeats 4000000 in
theorem blockN_cps (R : Nat) (ao : Option Addr) (n cap k : Nat) (ops most regs slots nb : Int) (w : World) (h : Rolls w R ao n cap k) (hre : 1 ≤ regs ∧ regs ≤ 8) (hsl : 0 ≤ slots ∧ slots ≤ 8) (hop : 0 ≤ ops ∧ ops ≤ 12) (hmo : 1 ≤ most ∧ most ≤ 15) (hms : most ≤ 13 ∨ 1 ≤ slots) (hnb : 1 ≤ nb ∧ nb ≤ 6) (Post : Ending → World → Prop)
    (hp : ∀ sv l a b c d k' w', blockGood regs slots nb ⟨l, ⟨a, b, c, d⟩⟩ = true → Hid ((l.length : Int) ≤ ops) → w'.ownsRow w.heap.size 36 4 sv l.length (opCells l) → Rolls w' R ao n cap k' → Keep (fun g => g = R) w w' → Post (.returned (.agg #[sv, .int .i64 a, .int .i64 b, .int .i64 c, .int .i64 d])) w') :
    Calls Tryz.prog 30 #[.pointer (some ⟨R, 0, none⟩), .int .i64 ops, .int .i64 most, .int .i64 regs, .int .i64 slots, .int .i64 nb] w Post := by
  obtain ⟨i0, ii, iz0, iz1, iz2⟩ := info_parts Tryz.infoOp
  have hRw := h.row.lt
  have hA0 : Row ((w.alloc (.cells #[.slice none 0 0, .int .i64 0, .int .i64 0, .int .i64 0, .int .i64 0] 42)).alloc (.cells #[.slice none 0 0, .int .i64 0, .int .i64 0, .int .i64 0, .int .i64 0] 42)) w.heap.size 42 zBlk5 := by
    have q : Row (w.alloc (.cells #[.slice none 0 0, .int .i64 0, .int .i64 0, .int .i64 0, .int .i64 0] 42)) w.heap.size 42 zBlk5 := heap_alloc_new w _
    exact q.alloc _
  have hB0 : Row ((w.alloc (.cells #[.slice none 0 0, .int .i64 0, .int .i64 0, .int .i64 0, .int .i64 0] 42)).alloc (.cells #[.slice none 0 0, .int .i64 0, .int .i64 0, .int .i64 0, .int .i64 0] 42)) (w.heap.size + 1) 42 [.slice none 0 0, .int .i64 0, .int .i64 0, .int .i64 0, .int .i64 0] := heap_alloc2_new w _ _
  go_enter Tryz.func30, Tryz.ntmps30
  go_wp2_with fail
  refine next_cps R ao n cap k (ops + 1) _ (h.keep (((Below.refl _ _).alloc (Nat.le_refl _) _).alloc (by simp) _)) (by omega) _ ?_
  intro c k1 w1 hc0 hc3 hr1 hk1 hz1
  have hA := hA0.kept hk1 (by omega)
  have hB := hB0.kept hk1 (by omega)
  have hk01 : Keep (fun g => g = R) w w1 := (((Keep.refl _ _).alloc _).alloc _).trans hk1
  simp only [World.size_alloc] at hz1
  have hz1' : w.heap.size + 2 ≤ w1.heap.size := by omega
  clear hA0 hB0 hz1 hk1
  go_wp2
  go_loopw [15] (fun i wr => ∃ (j : Nat) (sv : Value) (l : List OpD) (kk : Nat), j ≤ c.toNat ∧ i = .int .i64 j ∧ Hid (l.length = j) ∧ Hid (opsGood regs slots l = true) ∧ Row wr w.heap.size 42 zBlk5 ∧ Row wr (w.heap.size + 1) 42 [sv, .int .i64 0, .int .i64 0, .int .i64 0, .int .i64 0] ∧
      wr.ownsRow (w.heap.size + 2) 36 4 sv j (opCells l) ∧ Rolls wr R ao n cap kk ∧ Keep (fun g => g = R) w wr ∧ w.heap.size + 2 ≤ wr.heap.size)
    (fun i _ => c.toNat - (intOf i).toNat)
  case atStart => exact ⟨0, .slice none 0 0, [], k1, Nat.zero_le _, rfl, rfl, rfl, hA, hB, World.ownsRow_nil _ _ _ _, hr1, hk01, hz1'⟩
  case round =>
    clear hA hB hr1 hk01 hz1' w1
    obtain ⟨j, sv, l, kk, hj, rfl, hll, hlg, hA, hB, hown, hro, hke, hzz⟩ := hrel
    obtain ⟨lo, lc, rfl⟩ := owns_slice hown
    by_cases hlt : (j : Int) < c
    · go_wp2_with fail
      refine op_cps R ao n cap kk most regs slots _ hro hre hsl hmo hms _ ?_
      intro a b c' d k2 w2 hg hr2 hk2
      have hA2 := hA.kept hk2 (by omega)
      have hB2 := hB.kept hk2 (by omega)
      have own2 := owns_keep hown hk2 (fun g hg => by omega)
      have hke2 := hke.trans hk2
      have hz2 := hk2.size
      have hzl : w.heap.size + 1 < w2.heap.size := by omega
      have hzq : w.heap.size + 2 ≤ w2.heap.size := by omega
      have b0 := hB2.cell (i := 0) rfl
      have HX : Hid (opsGood regs slots (l ++ [⟨a, b, c', d⟩]) = true) := by
        show opsGood _ _ _ = true
        have := hlg.out
        simp only [opsGood, List.all_append, List.all_cons, List.all_nil, Bool.and_true, Bool.and_eq_true] at this ⊢
        exact ⟨this, hg⟩
      clear hown hro hke hzz hA hB hk2 hg hlg
      go_wp2_with (at_builtin; refine wpList_append_own _ rfl _ _ 34 rfl (w.heap.size + 2) 36 i0 (.agg #[.int .i64 0, .int .i64 0, .int .i64 0, .int .i64 0]) 4 32 Tryz.underlying34 ii iz0 iz1 iz2 rfl (by decide) _ _ _ rfl ((own2.alloc _).alloc _) ⟨w2.heap.size + 1, 0, none⟩ 1 1 [.int .i64 a, .int .i64 b, .int .i64 c', .int .i64 d] rfl rfl ?c1 four_one ?c3 ?c4 ?c5 ?_)
      case c1 => simpa using four_new (w2.alloc _) _ _ _ _ _
      case c3 => unfold maxLen; omega
      case c4 => omega
      case c5 => first | omega | (simp; omega)
      intro v' w3 hown' hgrow _
      rw [← opCells_snoc] at hown'
      have hb2 := ((((Below.refl (w.heap.size + 2) w2).alloc hzq _).alloc (by simp; omega) _).grown hgrow (by simp; omega) (fun g hg => (own2.lt g hg).1))
      have hA3 := hA2.below hb2 (by omega)
      have hB3 := hB2.below hb2 (by omega)
      have hr3 := hr2.below h hb2 (by omega)
      have hke3 := hke2.below hb2 (by omega)
      have hz3 := hb2.size
      have y0 := hB3.cell (i := 0) rfl
      have yf := hB3.frozen 0
      obtain ⟨lo', lc', rfl⟩ := owns_slice hown'
      have hB4 := hB3.set 0 (.slice lo' (j + 1) lc')
      have hA4 := hA3.unset (a := ⟨w.heap.size + 1, 0, none⟩) (by show w.heap.size ≠ w.heap.size + 1; omega) (.slice lo' (j + 1) lc')
      have hr4 := hr3.set h (g := w.heap.size + 1) (i := 0) (by omega) (.slice lo' (j + 1) lc')
      have hke4 := hke3.setCell (p := ⟨w.heap.size + 1, 0, none⟩) (.inr (by show w.heap.size ≤ w.heap.size + 1; omega)) (.slice lo' (j + 1) lc')
      have own4 := ownsRow_setCell_below hown' (a := ⟨w.heap.size + 1, 0, none⟩) (by show w.heap.size + 1 < w.heap.size + 2; omega) (.slice lo' (j + 1) lc')
      clear hgrow hown' hb2 hA2 hB2 own2 hr2 hke2 b0 hA3 hB3 hr3 hke3
      go_wp2
      go_roundw
      case rel => exact ⟨j + 1, _, l ++ [⟨a, b, c', d⟩], k2, by omega, by go_num, by show List.length _ = _; have := hll.out; simp; exact this, HX, hA4, hB4, own4, hr4, hke4, by simp; omega⟩
      case measure => simp [intOf]; omega
    · obtain rfl : j = c.toNat := by omega
      go_wp2_with fail
      refine end_cps R ao n cap kk regs nb _ hro hre hnb _ ?_
      intro a b c' d k2 w2 hg hr2 hk2
      have hA2 := hA.kept hk2 (by omega)
      have hB2 := hB.kept hk2 (by omega)
      have own2 := owns_keep hown hk2 (fun g hg => by omega)
      have hke2 := hke.trans hk2
      have b0 := hB2.cell (i := 0) rfl
      have b1 := hB2.cell (i := 1) rfl
      have b2 := hB2.cell (i := 2) rfl
      have b3 := hB2.cell (i := 3) rfl
      have b4 := hB2.cell (i := 4) rfl
      have g1 := hB2.frozen 1
      have g2 := hB2.frozen 2
      have g3 := hB2.frozen 3
      have g4 := hB2.frozen 4
      have a0 := hA2.cell (i := 0) rfl
      have a1 := hA2.cell (i := 1) rfl
      have a2 := hA2.cell (i := 2) rfl
      have a3 := hA2.cell (i := 3) rfl
      have a4 := hA2.cell (i := 4) rfl
      have f0 := hA2.frozen 0
      have f1 := hA2.frozen 1
      have f2 := hA2.frozen 2
      have f3 := hA2.frozen 3
      have f4 := hA2.frozen 4
      have hgood : blockGood regs slots nb ⟨l, ⟨a, b, c', d⟩⟩ = true := by
        have e1 := hll.out
        simp only [blockGood, Bool.and_eq_true, decide_eq_true_eq]
        exact ⟨⟨by show l.length ≤ 12; omega, hlg.out⟩, hg⟩
      have hfin := hp (.slice lo c.toNat lc) l a b c' d k2 (set4 ((set4 w2 (w.heap.size + 1) 1 a b c' d).setCell ⟨w.heap.size, 0, none⟩ (.slice lo c.toNat lc)) w.heap.size 1 a b c' d) hgood (by have := hll.out; show (l.length : Int) ≤ ops; omega)
        (by
          rw [hll.out]
          refine owns_base (base := w.heap.size + 2) ?_ (by omega)
          exact (ownsRow_setCell_below · (by simp) _) ((ownsRow_setCell_below · (by simp) _) ((ownsRow_setCell_below · (by simp) _) ((ownsRow_setCell_below · (by simp) _) ((ownsRow_setCell_below · (by simp) _) ((ownsRow_setCell_below · (by simp) _) ((ownsRow_setCell_below · (by simp) _) ((ownsRow_setCell_below · (by simp) _) ((ownsRow_setCell_below · (by simp) _) own2)))))))))
        (((((((((hr2.set h (by omega) _).set h (by omega) _).set h (by omega) _).set h (by omega) _).set h (by omega) _).set h (by omega) _).set h (by omega) _).set h (by omega) _).set h (by omega) _)
        (((hke2.set4 (.inr (by omega)) _ _ _ _).setCell (.inr (by simp)) _).set4 (.inr (by omega)) _ _ _ _)
      have HF : Hid (Post (.returned (.agg #[.slice lo c.toNat lc, .int .i64 a, .int .i64 b, .int .i64 c', .int .i64 d])) (set4 ((set4 w2 (w.heap.size + 1) 1 a b c' d).setCell ⟨w.heap.size, 0, none⟩ (.slice lo c.toNat lc)) w.heap.size 1 a b c' d)) := hfin
      clear hfin hp hgood hA hB hown hro hke hA2 hB2 own2 hke2 hk2 hr2 h
      go_wp2
      exact bodyPost_ret (v := .agg #[.slice lo c.toNat lc, .int .i64 a, .int .i64 b, .int .i64 c', .int .i64 d]) (by simp [results, Tryz.results30, go_sem, a0, a1, a2, a3, a4]) rfl HF.out

set_option maxRecDepth 100000 in
set_option maxHeartbeats 8000000 in
theorem built_cps (ao : Option Addr) (n cap : Nat) (lo hi ops : Int) (w : World) (hlo : 1 ≤ lo ∧ lo ≤ hi) (hhi : hi ≤ 8) (hop : 0 ≤ ops ∧ ops ≤ 12) (hraw : RdInts w (.slice ao n cap) n) (Post : Ending → World → Prop)
    (hp : ∀ a0 a1 a2 v bv w', progGood ⟨a0, a1, a2, 0, bdat bv⟩ = true → lo ≤ a1 → a1 ≤ hi → (∀ x ∈ bv, (x.1.ops.length : Int) ≤ ops) → OwnBlocks w' w.heap.size v bv → Below w.heap.size w w' → Post (.returned (.agg #[.int .i64 a0, .int .i64 a1, .int .i64 a2, .int .i64 0, v])) w') :
    Calls Tryz.prog 10 #[.slice ao n cap, .int .i64 lo, .int .i64 hi, .int .i64 ops] w Post := by
  obtain ⟨i0, ii, iz0, iz1, iz2⟩ := info_parts Tryz.infoBlk
  have rA : Row (((w.alloc (.cells #[.int .i64 0, .int .i64 0, .int .i64 0, .int .i64 0, .slice none 0 0] 25)).alloc (.cells #[.slice ao n cap, .int .i64 0] 47)).alloc (.cells #[.int .i64 0, .int .i64 0, .int .i64 0, .int .i64 0, .slice none 0 0] 25)) w.heap.size 25 [.int .i64 0, .int .i64 0, .int .i64 0, .int .i64 0, .slice none 0 0] := by
    have q : Row (w.alloc (.cells #[.int .i64 0, .int .i64 0, .int .i64 0, .int .i64 0, .slice none 0 0] 25)) w.heap.size 25 [.int .i64 0, .int .i64 0, .int .i64 0, .int .i64 0, .slice none 0 0] := heap_alloc_new w _
    exact (q.alloc _).alloc _
  have rR : Row (((w.alloc (.cells #[.int .i64 0, .int .i64 0, .int .i64 0, .int .i64 0, .slice none 0 0] 25)).alloc (.cells #[.slice ao n cap, .int .i64 0] 47)).alloc (.cells #[.int .i64 0, .int .i64 0, .int .i64 0, .int .i64 0, .slice none 0 0] 25)) (w.heap.size + 1) 47 [.slice ao n cap, .int .i64 0] := by
    have q : Row ((w.alloc (.cells #[.int .i64 0, .int .i64 0, .int .i64 0, .int .i64 0, .slice none 0 0] 25)).alloc (.cells #[.slice ao n cap, .int .i64 0] 47)) (w.heap.size + 1) 47 [.slice ao n cap, .int .i64 0] := heap_alloc2_new w _ _
    exact q.alloc _
  have rP : Row (((w.alloc (.cells #[.int .i64 0, .int .i64 0, .int .i64 0, .int .i64 0, .slice none 0 0] 25)).alloc (.cells #[.slice ao n cap, .int .i64 0] 47)).alloc (.cells #[.int .i64 0, .int .i64 0, .int .i64 0, .int .i64 0, .slice none 0 0] 25)) (w.heap.size + 2) 25 [.int .i64 0, .int .i64 0, .int .i64 0, .int .i64 0, .slice none 0 0] := by
    have q := heap_alloc2_new (w.alloc (.cells #[.int .i64 0, .int .i64 0, .int .i64 0, .int .i64 0, .slice none 0 0] 25)) (.cells #[.slice ao n cap, .int .i64 0] 47) (.cells #[.int .i64 0, .int .i64 0, .int .i64 0, .int .i64 0, .slice none 0 0] 25)
    simp only [World.size_alloc] at q
    exact q
  have hb0 : Below w.heap.size w (((w.alloc (.cells #[.int .i64 0, .int .i64 0, .int .i64 0, .int .i64 0, .slice none 0 0] 25)).alloc (.cells #[.slice ao n cap, .int .i64 0] 47)).alloc (.cells #[.int .i64 0, .int .i64 0, .int .i64 0, .int .i64 0, .slice none 0 0] 25)) := (((Below.refl w.heap.size w).alloc (Nat.le_refl _) _).alloc (by simp) _).alloc (by simp; omega) _
  have ro0 := Rolls.fresh hraw hb0 rR (by omega)
  have ke : Keep (fun g => g = w.heap.size + 1) w (((w.alloc (.cells #[.int .i64 0, .int .i64 0, .int .i64 0, .int .i64 0, .slice none 0 0] 25)).alloc (.cells #[.slice ao n cap, .int .i64 0] 47)).alloc (.cells #[.int .i64 0, .int .i64 0, .int .i64 0, .int .i64 0, .slice none 0 0] 25)) := (((Keep.refl _ _).alloc _).alloc _).alloc _
  clear rR hb0
  go_enter Tryz.func10, Tryz.ntmps10
  go_wp2_with fail
  refine next_cps (w.heap.size + 1) ao n cap _ (hi - lo + 1) _ ro0 (by omega) _ ?_
  intro x0 k0 w0 xa0 xb0 hr hk hzz
  have ro := hr
  have rA := rA.kept hk (by omega)
  have rP := rP.kept hk (by omega)
  have ke := ke.trans hk
  clear hr hk
  have pc := rP.cell (i := 1) rfl
  have pf := rP.frozen 1
  have ro1 := ro.away hraw (g := (w.heap.size + 2)) (i := 1) (by omega) (by omega) (.int .i64 (lo + x0))
  have rA := rA.unset (a := ⟨(w.heap.size + 2), 1, none⟩) (by show w.heap.size ≠ w.heap.size + 2; omega) (.int .i64 (lo + x0))
  have rP := rP.set 1 (.int .i64 (lo + x0))
  have ke := ke.setCell (p := ⟨(w.heap.size + 2), 1, none⟩) (.inr (by show w.heap.size ≤ w.heap.size + 2; omega)) (.int .i64 (lo + x0))
  clear ro
  have p1 := rP.cell (i := 1) (u := .int .i64 (lo + x0)) rfl
  go_wp2_with fail
  refine next_cps (w.heap.size + 1) ao n cap _ (lo + x0 + 1) _ ro1 (by omega) _ ?_
  intro x1 k1 w1 xa1 xb1 hr hk hzz
  have ro := hr
  have rA := rA.kept hk (by omega)
  have rP := rP.kept hk (by omega)
  have ke := ke.trans hk
  clear hr hk
  clear p1
  have pc := rP.cell (i := 0) rfl
  have pf := rP.frozen 0
  have ro2 := ro.away hraw (g := (w.heap.size + 2)) (i := 0) (by omega) (by omega) (.int .i64 x1)
  have rA := rA.unset (a := ⟨(w.heap.size + 2), 0, none⟩) (by show w.heap.size ≠ w.heap.size + 2; omega) (.int .i64 x1)
  have rP := rP.set 0 (.int .i64 x1)
  have ke := ke.setCell (p := ⟨(w.heap.size + 2), 0, none⟩) (.inr (by show w.heap.size ≤ w.heap.size + 2; omega)) (.int .i64 x1)
  clear ro
  go_wp2_with fail
  refine next_cps (w.heap.size + 1) ao n cap _ 9 _ ro2 (by omega) _ ?_
  intro x2 k2 w2 xa2 xb2 hr hk hzz
  have ro := hr
  have rA := rA.kept hk (by omega)
  have rP := rP.kept hk (by omega)
  have ke := ke.trans hk
  clear hr hk
  have pc := rP.cell (i := 2) rfl
  have pf := rP.frozen 2
  have ro3 := ro.away hraw (g := (w.heap.size + 2)) (i := 2) (by omega) (by omega) (.int .i64 x2)
  have rA := rA.unset (a := ⟨(w.heap.size + 2), 2, none⟩) (by show w.heap.size ≠ w.heap.size + 2; omega) (.int .i64 x2)
  have rP := rP.set 2 (.int .i64 x2)
  have ke := ke.setCell (p := ⟨(w.heap.size + 2), 2, none⟩) (.inr (by show w.heap.size ≤ w.heap.size + 2; omega)) (.int .i64 x2)
  clear ro
  go_wp2_with fail
  refine next_cps (w.heap.size + 1) ao n cap _ 6 _ ro3 (by omega) _ ?_
  intro x4 k4 w4 xa4 xb4 hr hk hz4
  have ro := hr
  have rA := rA.kept hk (by omega)
  have rP := rP.kept hk (by omega)
  have ke := ke.trans hk
  have hz : w.heap.size + 3 ≤ w4.heap.size := by have := rP.lt; omega
  clear hr hk ro3
  go_wp2
  go_loopw [12] (fun i wr => ∃ (j : Nat) (v : Value) (bv : List (BlockD × Value)) (kk : Nat), (j : Int) ≤ 1 + x4 ∧ i = .int .i64 j ∧ Hid (bv.length = j) ∧ Hid (∀ x ∈ bv, blockGood (lo + x0) 0 (1 + x4) x.1 = true ∧ (x.1.ops.length : Int) ≤ ops) ∧ Row wr w.heap.size 25 [.int .i64 0, .int .i64 0, .int .i64 0, .int .i64 0, .slice none 0 0] ∧ Row wr (w.heap.size + 2) 25 [.int .i64 x1, .int .i64 (lo + x0), .int .i64 x2, .int .i64 0, v] ∧
      OwnBlocks wr (w.heap.size + 3) v bv ∧ Rolls wr (w.heap.size + 1) ao n cap kk ∧ Keep (fun g => g = w.heap.size + 1) w wr ∧ w.heap.size + 3 ≤ wr.heap.size)
    (fun i _ => (1 + x4).toNat - (intOf i).toNat)
  case atStart => exact ⟨0, .slice none 0 0, [], _, by omega, rfl, rfl, (fun x hx => by cases hx), rA, rP, ownBlocks_nil _ _, ro, ke, hz⟩
  case round =>
    clear rA rP ke ro hz hz4 w4
    obtain ⟨j, v, bv, kk, hj, rfl, hvl, hbg, rA, rP, own, ro, ke, hz⟩ := hrel
    obtain ⟨bo, bc, rfl⟩ := owns_slice own.row
    have p1 := rP.cell (i := 1) rfl
    by_cases hlt : (j : Int) < 1 + x4
    · go_wp2_with fail
      refine blockN_cps (w.heap.size + 1) ao n cap kk ops 13 (lo + x0) 0 (1 + x4) _ ro (by omega) (by omega) hop (by omega) (.inl (by omega)) (by omega) _ ?_
      intro sv l a b c d k2 w2 hg hgl hsv hr2 hk2
      obtain ⟨so, sc, rfl⟩ := owns_slice hsv
      have rA2 := rA.kept hk2 (by omega)
      have rP2 := rP.kept hk2 (by omega)
      have own2 := own.apartFrom hk2 (fun g hg => by omega)
      have ke2 := ke.trans hk2
      have hz2 := hk2.size
      have hzl : w.heap.size + 2 < w2.heap.size := by omega
      have hzq : w.heap.size + 3 ≤ w2.heap.size := by omega
      have p4 := rP2.cell (i := 4) rfl
      have hfree : ∀ y ∈ bv, ∀ g, y.2.ownBlock = some g → (Value.slice so l.length sc).ownBlock ≠ some g := by
        intro y hy g hg e
        have q1 := ((own.each y hy).lt g hg).2
        have q2 := (hsv.lt g e).1
        omega
      have HG : Hid (∀ x ∈ bv ++ [(⟨l, ⟨a, b, c, d⟩⟩, Value.slice so l.length sc)], blockGood (lo + x0) 0 (1 + x4) x.1 = true ∧ (x.1.ops.length : Int) ≤ ops) := by
        intro x hx
        rcases List.mem_append.1 hx with hx | hx
        · exact hbg.out x hx
        · simp at hx; subst hx; exact ⟨hg, hgl.out⟩
      have hsv2 := owns_base hsv (show w.heap.size + 3 ≤ _ by omega)
      clear rA rP own ke hk2 p1 ro hsv hg hgl hbg
      go_wp2_with (at_builtin; refine wpList_append_own _ rfl _ _ 23 rfl (w.heap.size + 3) 42 i0 (.agg #[.slice none 0 0, .int .i64 0, .int .i64 0, .int .i64 0, .int .i64 0]) 5 56 Tryz.underlying23 ii iz0 iz1 iz2 rfl (by decide) _ _ _ rfl ((own2.row.alloc _).alloc _) ⟨w2.heap.size + 1, 0, none⟩ 1 1 [.slice so l.length sc, .int .i64 a, .int .i64 b, .int .i64 c, .int .i64 d] rfl rfl ?c113 five_one ?c313 ?c413 ?c513 ?_)
      case c113 => simpa using five_new (w2.alloc _) _ _ _ _ _ _
      case c313 => have := hvl.out; unfold maxLen; omega
      case c413 => have := hvl.out; omega
      case c513 => first | omega | (simp; omega)
      intro v' w3 hown' hgrow _
      have own3 : OwnBlocks w3 (w.heap.size + 3) v' (bv ++ [(⟨l, ⟨a, b, c, d⟩⟩, .slice so l.length sc)]) := ((own2.alloc _).alloc _).snoc ((hsv2.alloc _).alloc _) hfree hgrow hown'
      have hb2 := ((((Below.refl (w.heap.size + 3) w2).alloc hzq _).alloc (by simp; omega) _).grown hgrow (by simp; omega) (fun g hg => (own2.row.lt g hg).1))
      have rA3 := rA2.below hb2 (by omega)
      have rP3 := rP2.below hb2 (by omega)
      have ro3 := hr2.belowB hraw hb2 (by omega) (by omega)
      have ke3 := ke2.below hb2 (by omega)
      have hz3 := hb2.size
      have y4 := rP3.cell (i := 4) rfl
      have yf := rP3.frozen 4
      obtain ⟨bo', bc', hv'⟩ := owns_slice own3.row
      rw [List.length_append] at hv'
      simp only [List.length_cons, List.length_nil, Nat.zero_add] at hv'
      subst hv'
      have rP4 := rP3.set 4 (.slice bo' (bv.length + 1) bc')
      have rA4 := rA3.unset (a := ⟨(w.heap.size + 2), 4, none⟩) (by show w.heap.size ≠ w.heap.size + 2; omega) (.slice bo' (bv.length + 1) bc')
      have ro4 := ro3.away hraw (g := (w.heap.size + 2)) (i := 4) (by omega) (by omega) (.slice bo' (bv.length + 1) bc')
      have ke4 := ke3.setCell (p := ⟨(w.heap.size + 2), 4, none⟩) (.inr (by show w.heap.size ≤ w.heap.size + 2; omega)) (.slice bo' (bv.length + 1) bc')
      have own4 := own3.set (a := ⟨(w.heap.size + 2), 4, none⟩) (by show w.heap.size + 2 < w.heap.size + 3; omega) (.slice bo' (bv.length + 1) bc')
      clear hgrow hown' hb2 rA2 rP2 own2 hr2 ke2 p4 rA3 rP3 ro3 ke3 own3 hsv2 hfree
      go_wp2
      go_roundw
      case rel => exact ⟨j + 1, _, _, k2, by omega, by go_num, by show List.length _ = _; have := hvl.out; simp; exact this, HG, rA4, rP4, own4, ro4, ke4, by simp; omega⟩
      case measure => simp [intOf]; omega
    · have hje : (j : Int) = 1 + x4 := by omega
      have b0 := rP.cell (i := 0) rfl
      have b3 := rP.cell (i := 3) rfl
      have b2 := rP.cell (i := 2) rfl
      have b4 := rP.cell (i := 4) rfl
      have a0 := rA.cell (i := 0) rfl
      have a1 := rA.cell (i := 1) rfl
      have a2 := rA.cell (i := 2) rfl
      have a3 := rA.cell (i := 3) rfl
      have a4 := rA.cell (i := 4) rfl
      have f0 := rA.frozen 0
      have f1 := rA.frozen 1
      have f2 := rA.frozen 2
      have f3 := rA.frozen 3
      have f4 := rA.frozen 4
      have hgood : progGood ⟨x1, lo + x0, x2, 0, bdat bv⟩ = true := by
        have e := hvl.out
        simp only [progGood, blocksGood, Bool.and_eq_true, decide_eq_true_eq, List.all_eq_true, bdat_length]
        refine ⟨⟨⟨⟨⟨by omega, by omega⟩, by omega⟩, by omega⟩, by omega⟩, ?_⟩
        intro x hx
        obtain ⟨y, hy, rfl⟩ := List.mem_map.1 hx
        have := (hbg.out y hy).1
        rw [e, hje]
        exact this
      have hfin := hp x1 (lo + x0) x2 (.slice bo bv.length bc) bv (((((wr.setCell ⟨w.heap.size, 0, none⟩ (.int .i64 x1)).setCell ⟨w.heap.size, 1, none⟩ (.int .i64 (lo + x0))).setCell ⟨w.heap.size, 2, none⟩ (.int .i64 x2)).setCell ⟨w.heap.size, 3, none⟩ (.int .i64 0)).setCell ⟨w.heap.size, 4, none⟩ (.slice bo bv.length bc)) hgood (by omega) (by omega) (fun x hx => (hbg.out x hx).2)
        ((((((own.set (by simp) _).set (by simp) _).set (by simp) _).set (by simp) _).set (by simp) _).base (by omega))
        ((((((ke.setCell (.inr (by simp)) _).setCell (.inr (by simp)) _).setCell (.inr (by simp)) _).setCell (.inr (by simp)) _).setCell (.inr (by simp)) _).toBelow (Nat.le_refl _) (fun g hg => by omega))
      have HF : Hid (Post (.returned (.agg #[.int .i64 x1, .int .i64 (lo + x0), .int .i64 x2, .int .i64 0, .slice bo bv.length bc])) (((((wr.setCell ⟨w.heap.size, 0, none⟩ (.int .i64 x1)).setCell ⟨w.heap.size, 1, none⟩ (.int .i64 (lo + x0))).setCell ⟨w.heap.size, 2, none⟩ (.int .i64 x2)).setCell ⟨w.heap.size, 3, none⟩ (.int .i64 0)).setCell ⟨w.heap.size, 4, none⟩ (.slice bo bv.length bc))) := hfin
      clear hfin hp hgood own ro ke rA rP
      go_wp2
      exact bodyPost_ret (v := .agg #[.int .i64 x1, .int .i64 (lo + x0), .int .i64 x2, .int .i64 0, .slice bo bv.length bc]) (by simp [results, Tryz.results10, go_sem, a0, a1, a2, a3, a4]) rfl HF.out

end Go.Proofs.YtblhmeidbjigaabGreatDoor

/- A hint out of raw numbers. -/
set_option linter.unusedSimpArgs false
set_option linter.unusedVariables false
namespace Go.Proofs.YtblhmeidbjigaabGreatDoor
open Go.RowKit

theorem pairs_one (a b : Int) : ∀ u ∈ [Value.int .i64 a, Value.int .i64 b], u.oneCell' = true := by
  intro u hu; simp at hu; rcases hu with rfl | rfl <;> rfl

end Go.Proofs.YtblhmeidbjigaabGreatDoor

/- The hint that says: as it is (twinkeep.identity). -/
set_option linter.unusedSimpArgs false
set_option linter.unusedVariables false
namespace Go.Proofs.YtblhmeidbjigaabGreatDoor
open Go.RowKit

theorem idPairs_snoc (p : Nat) : idPairs (p + 1) = idPairs p ++ [⟨p, p⟩] := by
  simp [idPairs, List.range_succ]

/-- The pairings of n blocks, each with r pairs. -/
def idPings (n r : Nat) : List PingD := (List.range n).map fun (b : Nat) => ⟨b, idPairs r⟩

theorem idPings_snoc (n r : Nat) : idPings (n + 1) r = idPings n r ++ [⟨n, idPairs r⟩] := by
  simp [idPings, List.range_succ]

theorem idHint_pings (p : ProgD) : idHint p = idPings p.blocks.length p.regs.toNat := rfl

theorem hdat_snoc (hv : List (PingD × Value)) (x : PingD) (v : Value) : hdat (hv ++ [(x, v)]) = hdat hv ++ [x] := by
  simp [hdat]

set_option maxRecDepth 100000 in
set_option maxHeartbeats 8000000 in
theorem identity_cps (a0 a1 a2 a3 : Int) (po : Option Addr) (nb pc : Nat) (w : World) (hr0 : 0 ≤ a1) (hr8 : a1 ≤ 8) (hnb : nb ≤ 6) (Post : Ending → World → Prop)
    (hp : ∀ v hv w', Hid (hdat hv = idPings nb a1.toNat) → OwnHint w' w.heap.size v hv → Below w.heap.size w w' → Post (.returned (.agg #[v])) w') :
    Calls Tryz.prog 15 #[.agg #[.int .i64 a0, .int .i64 a1, .int .i64 a2, .int .i64 a3, .slice po nb pc]] w Post := by
  obtain ⟨i0, ii, iz0, iz1, iz2⟩ := info_parts Tryz.infoPing
  obtain ⟨j0, ji, jz0, jz1, jz2⟩ := info_parts Tryz.infoPair
  have rB : Row (((w.alloc (.cells #[.int .i64 a0, .int .i64 a1, .int .i64 a2, .int .i64 a3, .slice po nb pc] 25)).alloc (.cells #[.slice none 0 0] 30)).alloc (.cells #[.slice none 0 0] 30)) w.heap.size 25 [.int .i64 a0, .int .i64 a1, .int .i64 a2, .int .i64 a3, .slice po nb pc] := by
    have q : Row (w.alloc (.cells #[.int .i64 a0, .int .i64 a1, .int .i64 a2, .int .i64 a3, .slice po nb pc] 25)) w.heap.size 25 [.int .i64 a0, .int .i64 a1, .int .i64 a2, .int .i64 a3, .slice po nb pc] := heap_alloc_new w _
    exact (q.alloc _).alloc _
  have rA : Row (((w.alloc (.cells #[.int .i64 a0, .int .i64 a1, .int .i64 a2, .int .i64 a3, .slice po nb pc] 25)).alloc (.cells #[.slice none 0 0] 30)).alloc (.cells #[.slice none 0 0] 30)) (w.heap.size + 1) 30 [.slice none 0 0] := by
    have q : Row ((w.alloc (.cells #[.int .i64 a0, .int .i64 a1, .int .i64 a2, .int .i64 a3, .slice po nb pc] 25)).alloc (.cells #[.slice none 0 0] 30)) (w.heap.size + 1) 30 [.slice none 0 0] := heap_alloc2_new w _ _
    exact q.alloc _
  have rH : Row (((w.alloc (.cells #[.int .i64 a0, .int .i64 a1, .int .i64 a2, .int .i64 a3, .slice po nb pc] 25)).alloc (.cells #[.slice none 0 0] 30)).alloc (.cells #[.slice none 0 0] 30)) (w.heap.size + 2) 30 [.slice none 0 0] := by
    have q := heap_alloc2_new (w.alloc (.cells #[.int .i64 a0, .int .i64 a1, .int .i64 a2, .int .i64 a3, .slice po nb pc] 25)) (.cells #[.slice none 0 0] 30) (.cells #[.slice none 0 0] 30)
    simp only [World.size_alloc] at q
    exact q
  have ke : Keep (fun _ => False) w (((w.alloc (.cells #[.int .i64 a0, .int .i64 a1, .int .i64 a2, .int .i64 a3, .slice po nb pc] 25)).alloc (.cells #[.slice none 0 0] 30)).alloc (.cells #[.slice none 0 0] 30)) := (((Keep.refl _ _).alloc _).alloc _).alloc _
  have hz : w.heap.size + 3 ≤ (((w.alloc (.cells #[.int .i64 a0, .int .i64 a1, .int .i64 a2, .int .i64 a3, .slice po nb pc] 25)).alloc (.cells #[.slice none 0 0] 30)).alloc (.cells #[.slice none 0 0] 30)).heap.size := by simp
  go_enter Tryz.func15, Tryz.ntmps15
  go_wp2
  go_loopw [4] (fun i wr => ∃ (j : Nat) (v : Value) (hv : List (PingD × Value)), j ≤ nb ∧ i = .int .i64 j ∧ Hid (hv.length = j) ∧ Hid (hdat hv = idPings j a1.toNat) ∧ Row wr w.heap.size 25 [.int .i64 a0, .int .i64 a1, .int .i64 a2, .int .i64 a3, .slice po nb pc] ∧ Row wr (w.heap.size + 1) 30 [.slice none 0 0] ∧ Row wr (w.heap.size + 2) 30 [v] ∧
      OwnHint wr (w.heap.size + 3) v hv ∧ Keep (fun _ => False) w wr ∧ w.heap.size + 3 ≤ wr.heap.size)
    (fun i _ => nb - (intOf i).toNat)
  case atStart => exact ⟨0, .slice none 0 0, [], Nat.zero_le _, rfl, rfl, rfl, rB, rA, rH, ownHint_nil _ _, ke, hz⟩
  case round =>
    clear rA rH rB ke hz
    rename World => w1
    obtain ⟨j, v, hv, hj, rfl, hvl, hbg, rB, rA, rH, own, ke, hz⟩ := hrel
    obtain ⟨bo, bc, rfl⟩ := owns_slice own.row
    have c4 := rB.cell (i := 4) rfl
    by_cases hlt : j < nb
    · have rX1 : Row (w1.alloc (.cells #[.int .i64 j, .slice none 0 0] 33)) w1.heap.size 33 [.int .i64 j, .slice none 0 0] := heap_alloc_new w1 _
      have keX : Keep (fun _ => False) w1 (w1.alloc (.cells #[.int .i64 j, .slice none 0 0] 33)) := (Keep.refl _ _).alloc _
      have w1z : w1.heap.size + 1 ≤ (w1.alloc (.cells #[.int .i64 j, .slice none 0 0] 33)).heap.size := by simp
      go_wp2
      go_loopw [6] (fun i wi => ∃ (p : Nat) (ps : List PairD) (sv : Value), (p : Int) ≤ a1 ∧ i = .int .i64 p ∧ Hid (ps = idPairs p) ∧ Hid (ps.length = p) ∧ Row wi w1.heap.size 33 [.int .i64 j, sv] ∧ wi.ownsRow (w1.heap.size + 1) 38 2 sv ps.length (pairCells ps) ∧
          Keep (fun _ => False) w1 wi ∧ w1.heap.size + 1 ≤ wi.heap.size)
        (fun i _ => a1.toNat - (intOf i).toNat)
      case atStart => exact ⟨0, [], _, by omega, rfl, rfl, rfl, rX1, World.ownsRow_nil _ _ _ _, keX, w1z⟩
      case round =>
        clear rX1 keX w1z c4
        obtain ⟨p, ps, sv, hpp, rfl, hpt, hpl, rX, pown, kei, hzi⟩ := hrel
        obtain ⟨so, sc, rfl⟩ := owns_slice pown
        have d1 := (rB.kept kei (fun h => h)).cell (i := 1) rfl
        by_cases hp16 : (p : Int) < a1
        · have a1' := rX.cell (i := 1) rfl
          go_wp2_with (at_builtin; refine wpList_append_own _ rfl _ _ 31 rfl (w1.heap.size + 1) 38 j0 (.agg #[.int .i64 0, .int .i64 0]) 2 16 Tryz.underlying31 ji jz0 jz1 jz2 rfl (by decide) _ _ _ rfl (pown.alloc _) ⟨wr.heap.size, 0, none⟩ 1 1 [.int .i64 p, .int .i64 p] rfl rfl ?c1 ?c2 ?c3 ?c4 ?c5 ?_)
          case c1 => simpa using two_new wr _ _ _
          case c2 => exact pairs_one _ _
          case c3 => have := hpl.out; unfold maxLen; omega
          case c4 => have := hpl.out; omega
          case c5 => simp; omega
          intro v' w5 hown5 hgrow5 _
          have hb5 := ((Below.refl (w1.heap.size + 1) wr).alloc hzi (.cells #[.int .i64 p, .int .i64 p] 38)).grown hgrow5 (by simp; omega) (fun g hg => (pown.lt g hg).1)
          have rX5 := rX.below hb5 (by omega)
          have ke5 := kei.below hb5 (by omega)
          have hz5 := hb5.size
          have y1 := rX5.cell (i := 1) rfl
          have yf := rX5.frozen 1
          obtain ⟨bo', bc', hv'⟩ := owns_slice hown5
          subst hv'
          have rX6 := rX5.set 1 (.slice bo' (ps.length + 1) bc')
          have ke6 := ke5.setCell (p := ⟨w1.heap.size, 1, none⟩) (.inr (Nat.le_refl _)) (.slice bo' (ps.length + 1) bc')
          have own6 := ownsRow_setCell_below hown5 (a := ⟨w1.heap.size, 1, none⟩) (by show w1.heap.size < w1.heap.size + 1; omega) (.slice bo' (ps.length + 1) bc')
          rw [← pairCells_snoc] at own6
          have HP : Hid (ps ++ [⟨p, p⟩] = idPairs (p + 1)) := by show _ = _; rw [hpt.out, idPairs_snoc]
          have HL : Hid ((ps ++ [(⟨p, p⟩ : PairD)]).length = p + 1) := by show _ = _; have := hpl.out; simp; exact this
          clear rX5 ke5 hown5 hgrow5 hb5 rX pown kei hpt d1 a1'
          go_wp2
          go_roundw
          case rel => exact ⟨p + 1, ps ++ [⟨p, p⟩], _, by omega, by go_num, HP, HL, rX6, by simpa using own6, ke6, by simp; omega⟩
          case measure => simp [intOf]; omega
        · obtain rfl : p = a1.toNat := by omega
          have rA2 := rA.kept kei (fun h => h)
          have rB2 := rB.kept kei (fun h => h)
          have rH2 := rH.kept kei (fun h => h)
          have own2 := own.apartFrom kei (fun g hg => hg.elim)
          have ke2 := ke.trans kei
          have hzl : w.heap.size + 3 ≤ wr.heap.size := by omega
          have h0 := rH2.cell (i := 0) rfl
          have x0' := rX.cell (i := 0) rfl
          have x1' := rX.cell (i := 1) rfl
          have hfree : ∀ y ∈ hv, ∀ g, y.2.ownBlock = some g → (Value.slice so ps.length sc).ownBlock ≠ some g := by
            intro y hy g hg e
            have q1 := ((own.each y hy).lt g hg).2
            have q2 := (pown.lt g e).1
            omega
          have HG : Hid (hdat (hv ++ [(⟨j, ps⟩, Value.slice so ps.length sc)]) = idPings (j + 1) a1.toNat) := by
            show _ = _
            rw [hdat_snoc, hbg.out, idPings_snoc, hpt.out]
          have pown2 := owns_base pown (show w.heap.size + 3 ≤ _ by omega)
          clear rA rB rH own ke kei pown hbg rX hpt
          go_wp2_with (at_builtin; refine wpList_append_own _ rfl _ _ 28 rfl (w.heap.size + 3) 33 i0 (.agg #[.int .i64 0, .slice none 0 0]) 2 32 Tryz.underlying28 ii iz0 iz1 iz2 rfl (by decide) _ _ _ rfl (own2.row.alloc _) ⟨wr.heap.size, 0, none⟩ 1 1 [.int .i64 j, .slice so ps.length sc] rfl rfl ?c221 ?c22 ?c23 ?c24 ?c25 ?_)
          case c22 => exact ⟨rfl, rfl⟩
          case c23 => have := hvl.out; unfold maxLen; omega
          case c24 => have := hvl.out; omega
          case c25 => first | omega | (simp; omega)
          intro v' w7 hown' hgrow _
          have own7 : OwnHint w7 (w.heap.size + 3) v' (hv ++ [(⟨j, ps⟩, .slice so ps.length sc)]) := (own2.alloc _).snoc (x := ⟨j, ps⟩) (pown2.alloc _) hfree hgrow hown'
          have hb7 := (((Below.refl (w.heap.size + 3) wr).alloc hzl _).grown hgrow (by simp; omega) (fun g hg => (own2.row.lt g hg).1))
          have rA7 := rA2.below hb7 (by omega)
          have rB7 := rB2.below hb7 (by omega)
          have rH7 := rH2.below hb7 (by omega)
          have ke7 := ke2.below hb7 (by omega)
          have hz7 := hb7.size
          have y4 := rH7.cell (i := 0) rfl
          have yf := rH7.frozen 0
          obtain ⟨bo', bc', hv'⟩ := owns_slice own7.row
          rw [List.length_append] at hv'
          simp only [List.length_cons, List.length_nil, Nat.zero_add] at hv'
          subst hv'
          have rH8 := rH7.set 0 (.slice bo' (hv.length + 1) bc')
          have rA8 := rA7.unset (a := ⟨(w.heap.size + 2), 0, none⟩) (by show w.heap.size + 1 ≠ w.heap.size + 2; omega) (.slice bo' (hv.length + 1) bc')
          have rB8 := rB7.unset (a := ⟨(w.heap.size + 2), 0, none⟩) (by show w.heap.size ≠ w.heap.size + 2; omega) (.slice bo' (hv.length + 1) bc')
          have ke8 := ke7.setCell (p := ⟨(w.heap.size + 2), 0, none⟩) (.inr (by show w.heap.size ≤ w.heap.size + 2; omega)) (.slice bo' (hv.length + 1) bc')
          have own8 := own7.set (a := ⟨(w.heap.size + 2), 0, none⟩) (by show w.heap.size + 2 < w.heap.size + 3; omega) (.slice bo' (hv.length + 1) bc')
          clear hgrow hown' hb7 rA2 rB2 rH2 own2 ke2 h0 x0' x1' rA7 rB7 rH7 ke7 own7 pown2 hfree d1
          go_wp2
          go_roundw
          case rel => exact ⟨j + 1, _, _, by omega, by go_num, by show List.length _ = _; have := hvl.out; simp; exact this, HG, rB8, rA8, rH8, own8, ke8, by simp; omega⟩
          case measure => simp [intOf]; omega
    · obtain rfl : j = nb := by omega
      have b0 := rH.cell (i := 0) rfl
      have a0' := rA.cell (i := 0) rfl
      have f0 := rA.frozen 0
      have HF : Hid (Post (.returned (.agg #[.slice bo hv.length bc])) (w1.setCell ⟨w.heap.size + 1, 0, none⟩ (.slice bo hv.length bc))) :=
        hp (.slice bo hv.length bc) hv _ hbg ((own.set (by simp) _).base (by omega)) ((ke.setCell (.inr (by simp)) _).toBelow (Nat.le_refl _) (fun g hg => hg.elim))
      clear hp own ke rA rH rB
      go_wp2
      exact bodyPost_ret (v := .agg #[.slice bo hv.length bc]) (by simp [results, Tryz.results15, go_sem, a0']) rfl HF.out

end Go.Proofs.YtblhmeidbjigaabGreatDoor
