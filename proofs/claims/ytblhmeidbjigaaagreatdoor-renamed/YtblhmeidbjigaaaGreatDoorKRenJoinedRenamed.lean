/- twinkeep.Renamed: a source with other registers. -/
import Derived.Test.YtblhmeidbjigaaaGreatDoorRows
import Derived.WalkKit
import Derived.WalkSpells
import Derived.WalkLawsBesides
import Derived.Laws.BytesArg
import Derived.Deep.QuietTactic
import Derived.BigQuiet
import Derived.Deep.RegionHeld3
import Derived.Deep.RegionLaw
import Derived.Deep.AppendLies
import Derived.Lib.ItoaNum
import Derived.Lib.ItoaLen
import Derived.OpenShut
import Derived.Maps.AppendAt
import Derived.StillTailTactics
import Derived.Shelf.Strconv.Itoa3
import Derived.Shelf.Lay
import Derived.Ground.NamesProg
import Derived.Lib.SmallJoins
import Derived.Lib.Hide
import Derived.ProofKit
import Derived.SizedLaws
import Derived.Deep.Slices
import Derived.BigRegion
import Derived.Test.YtblhmeidbjigaaaGreatDoorKRnPJoinedRenamed

set_option linter.unusedSimpArgs false
set_option linter.unusedVariables false
namespace Go.Proofs.YtblhmeidbjigaaaGreatDoor
open Go.RowKit Go.Deep

theorem mid_get (f : OpD → OpD) (l : List OpD) {i : Nat} (hi : i < l.length) : ((l.take i).map f ++ l.drop i).getD i oz = l.getD i oz := by
  have e : ((l.take i).map f).length = i := by rw [List.length_map, List.length_take]; omega
  simp only [List.getD]
  rw [List.getElem?_append_right (by omega), e, Nat.sub_self, List.getElem?_drop, Nat.add_zero]

theorem mid_set (f : OpD → OpD) (l : List OpD) {i : Nat} (hi : i < l.length) : ((l.take i).map f ++ l.drop i).set i (f (l.getD i oz)) = (l.take (i + 1)).map f ++ l.drop (i + 1) := by
  have e : ((l.take i).map f).length = i := by rw [List.length_map, List.length_take]; omega
  have eg : l.getD i oz = l[i] := by simp [List.getD, hi]
  rw [eg, List.set_append_right _ _ (by omega), e, Nat.sub_self, List.drop_eq_getElem_cons hi, List.set_cons_zero, List.take_succ_eq_append_getElem hi]
  simp only [List.map_append, List.map_cons, List.map_nil, List.append_assoc, List.cons_append, List.nil_append]

set_option maxRecDepth 100000 in
set_option maxHeartbeats 1500000 in
theorem renamed_law_cps (ao : Option Addr) (rn cap : Nat) (so : Option Addr) (sn sc : Nat) (w : World) (hraw : RdInts w (.slice ao rn cap) rn) (hsw : RdInts w (.slice so sn sc) sn) (htab : TabW w) (Post : Ending → World → Prop)
    (hp : ∀ w', Below w.heap.size w w' → Post (.returned (.bool true)) w') :
    Calls Tryz.prog 9 #[.slice ao rn cap, .slice so sn sc] w Post := by
  obtain ⟨i0, ii, iz0, iz1, iz2⟩ := info_parts Tryz.infoPing
  obtain ⟨j0, ji, jz0, jz1, jz2⟩ := info_parts Tryz.infoPair
  have q1 := fun P' => built_cps ao rn cap 1 8 7 w (by omega) (by omega) (by omega) hraw P'
  have HP := Lib.hid hp
  clear hp
  go_enter Tryz.func9, Tryz.ntmps9
  go_wp2_with fail
  refine q1 _ ?_
  intro a0 a1 a2 v bv w1 gp hl1 hl2 hops ho hb1
  obtain ⟨R, rfl⟩ : ∃ R : Nat, a1 = (R : Int) := ⟨a1.toNat, by omega⟩
  have hA0 : 0 ≤ a0 ∧ a0 ≤ (R : Int) := by
    have g := gp
    simp only [progGood, Bool.and_eq_true, decide_eq_true_eq] at g
    exact g.1.1.1.1.2
  obtain ⟨A, rfl⟩ : ∃ A : Nat, a0 = (A : Int) := ⟨a0.toNat, by omega⟩
  obtain ⟨bo, bc, rfl⟩ := owns_slice ho.row
  have hlen6 : 1 ≤ bv.length ∧ bv.length ≤ 6 := by
    have := progGood_len gp
    simpa [bdat_length] using this
  obtain ⟨n, hn⟩ : ∃ n, n = bv.length := ⟨_, rfl⟩
  obtain ⟨l0, hl0⟩ : ∃ l0, l0 = bdat bv := ⟨_, rfl⟩
  have hln : n = l0.length := by rw [hl0, bdat_length, hn]
  have hrd := OwnBlocks.rd ho
  have sp := bdat_ops hops
  rw [← hl0] at hrd gp sp
  rw [← hn] at hrd hlen6 ⊢
  have HLN := Lib.hid hln
  obtain ⟨wp, hwp⟩ : ∃ x, x = w1.alloc (.cells #[.int .i64 (A : Int), .int .i64 (R : Int), .int .i64 a2, .int .i64 0, .slice bo n bc] 33) := ⟨_, rfl⟩
  have b1p : Below w1.heap.size w1 wp := by subst hwp; exact (Below.refl _ _).alloc (Nat.le_refl _) _
  have rP : Row wp w1.heap.size 33 [.int .i64 (A : Int), .int .i64 (R : Int), .int .i64 a2, .int .i64 0, .slice bo n bc] := by subst hwp; exact heap_alloc_new w1 _
  have bwp : Below w.heap.size w wp := hb1.trans (b1p.mono hb1.size)
  have rdp := hrd.keep b1p
  have q2 := fun P' => names_cps A R a2 0 bo n bc so sn sc wp (rdInts_stay hsw bwp) (by omega) (by omega) P'
  rw [hwp] at q2
  have HWP := Lib.hid hwp
  have HRP0 := Lib.hid rP
  have HBW0 := Lib.hid bwp
  have HRD0 := Lib.hid rdp
  have HG := Lib.hid gp
  have HSP := Lib.hid sp
  have HTB := Lib.hid htab
  clear q1 ho hops hb1 hrd hn hl0 hln b1p rP bwp rdp hwp gp sp htab hraw hsw
  go_wp2_with fail
  refine q2 _ ?_
  intro tv l wc hlR hnm hto hbn
  rw [← HWP.out] at hto hbn
  have rdw := owns_rdI hto
  obtain ⟨to, tc, htv⟩ := owns_slice hto
  rw [hlR.out] at htv
  subst htv
  have rP := HRP0.out.keep hbn
  have rdc := HRD0.out.keep hbn
  have bwc : Below w.heap.size w wc := HBW0.out.trans (hbn.mono HBW0.out.size)
  have p0 := rP.cell (i := 0) rfl
  have p1 := rP.cell (i := 1) rfl
  have p2 := rP.cell (i := 2) rfl
  have p3 := rP.cell (i := 3) rfl
  have p4 := rP.cell (i := 4) rfl
  have q3 := fun P' => clone_cps (A : Int) (R : Int) a2 0 bo bc l0 wc (by rw [← HLN.out]; exact rdc) (by rw [← HLN.out]; omega) (fun b hb => by have := HSP.out b hb; omega) P'
  rw [← HLN.out] at q3
  have HRP := Lib.hid rP
  have HBW := Lib.hid bwc
  have HRD := Lib.hid rdc
  have HTO := Lib.hid rdw
  have HNM := Lib.hid hnm
  have HLR := hlR
  clear q2 hto hbn rdw rP rdc bwc hnm HWP HRP0 HBW0 HRD0
  go_wp2_with fail
  refine q3 _ ?_
  intro v qv w2 hd hoq hb2
  obtain ⟨qo, qc, hv⟩ := owns_slice hoq.row
  have hqn : qv.length = n := by
    have := congrArg List.length hd.out
    rw [bdat_length] at this
    rw [this, ← HLN.out]
  rw [hqn] at hv
  subst hv
  obtain ⟨qg, hqo, hjunk⟩ := ownBlocks_at hoq (i := 0) (by omega)
  clear hjunk
  subst hqo
  obtain ⟨w4, hw4⟩ : ∃ x, x = (w2.alloc (.cells #[.int .i64 (A : Int), .int .i64 8, .int .i64 a2, .int .i64 0, .slice (some ⟨qg, 0, none⟩) n qc] 33)).alloc (.cells #[.slice none 0 0] 70) := ⟨_, rfl⟩
  have b24 : Below w2.heap.size w2 w4 := by subst hw4; exact ((Below.refl _ _).alloc (Nat.le_refl _) _).alloc (by simp) _
  have S4 : RnSt wc w4 w2.heap.size (A : Int) a2 l qg n qc 0 (fun b => (⟨bops l0 b, bfin l0 b⟩ : BlockD)) qv (.slice none 0 0) [] := by
    refine ⟨hqn, ?_, ?_, rfl, rfl, ?_, ?_, hoq.below b24 (Nat.le_refl _), ownHint_nil _ _, hb2.trans (b24.mono hb2.size), ?_, (hoq.row.lt qg rfl).2, (hoq.row.lt qg rfl).1⟩
    · intro b hb; rw [hd.out]; exact ⟨rfl, rfl⟩
    · intro x hx g hg; exact ((hoq.each x hx).lt g hg).2
    · subst hw4; exact Row.alloc (heap_alloc_new w2 _) _
    · subst hw4; exact heap_alloc2_new w2 _ _
    · subst hw4; simp
  have HS4 := Lib.hid S4
  have HW4 := Lib.hid hw4
  clear q3 hd hoq hb2 hqn hw4 b24 S4 p0 p1 p2 p3 p4
  go_wp2
  rw [← HW4.out]
  clear HW4
  have hwl2 : w1.heap.size < wc.heap.size := HRP.out.lt
  generalize w2.heap.size = Qb at *
  go_loopw [9] (fun i wr => ∃ (j : Nat) (qv : List (BlockD × Value)) (D : Nat → BlockD) (hval : Value) (hv : List (PingD × Value)), j ≤ n ∧ i = .int .i64 j ∧ RnSt wc wr Qb (A : Int) a2 l qg n qc j D qv hval hv ∧ Hid (∀ b, b < n → D b = if b < j then renB (nameOf l) (⟨bops l0 b, bfin l0 b⟩ : BlockD) else (⟨bops l0 b, bfin l0 b⟩ : BlockD)))
    (fun i _ => n - (intOf i).toNat)
  case atStart => exact ⟨0, qv, _, _, [], by omega, rfl, HS4.out, fun b hb => by simp⟩
  case round =>
    clear HS4
    rename World => wo
    obtain ⟨j, qv, D, hval, hv, hj, rfl, S, hD⟩ := hrel
    have z4 := S.rowQ.cell (i := 4) rfl
    by_cases hlt : j < n
    · have hbq : j < qv.length := by rw [S.len]; exact hlt
      have hbl : j < l0.length := by rw [← HLN.out]; exact hlt
      have GB : Hid (blockGood (R : Int) 0 l0.length ⟨bops l0 j, bfin l0 j⟩ = true) := good_at HG.out hbl
      obtain ⟨qg', eqg, _, cq0, cjunk⟩ := ownBlocks_at S.ownQ hbq
      simp only [Option.some.injEq, Addr.mk.injEq, and_true] at eqg
      subst eqg
      have hrow := S.ownQ.each _ (List.getElem_mem hbq)
      obtain ⟨uo, uc, hsv⟩ := owns_slice hrow
      have hops : qv[j].1.ops = bops l0 j := by
        have h1 := (S.dat j hlt).1
        rw [(bdat_get qv hbq).1, hD.out j hlt, if_neg (by omega)] at h1
        exact h1
      rw [hops] at hsv
      obtain ⟨on, hon⟩ : ∃ on, on = (bops l0 j).length := ⟨_, rfl⟩
      rw [← hon] at hsv
      rw [hsv] at cq0
      have HON := Lib.hid hon
      have honl : on ≤ 7 := by have := HSP.out j hbl; omega
      have hji : (0 : Int) ≤ (j : Int) := by omega
      have hjn : (j : Int) < (n : Int) := by omega
      have h0 : ∃ B, Hid (qv[j]? = some (B, Value.slice uo on uc)) := ⟨qv[j].1, by show _ = _; rw [List.getElem?_eq_getElem hbq, ← hsv]⟩
      have hD0 : Hid (∀ b, b < n → D b = if b = j then (⟨((bops l0 j).take 0).map (renOp (nameOf l)) ++ (bops l0 j).drop 0, bfin l0 j⟩ : BlockD) else if b < j then renB (nameOf l) (⟨bops l0 b, bfin l0 b⟩ : BlockD) else (⟨bops l0 b, bfin l0 b⟩ : BlockD)) := by
        show ∀ b, b < n → _
        intro b hb
        rw [hD.out b hb]
        by_cases e : b = j
        · subst e; rw [if_neg (by omega), if_pos rfl]; rfl
        · rw [if_neg e]
      have HS := Lib.hid S
      clear hon hops hsv hrow S hD cjunk hbq
      go_wp2
      go_loopw [11] (fun iv wi => ∃ (i : Nat) (qv : List (BlockD × Value)) (D : Nat → BlockD) (B : BlockD), i ≤ on ∧ iv = .int .i64 i ∧ RnSt wc wi Qb (A : Int) a2 l qg n qc j D qv hval hv ∧ Hid (qv[j]? = some (B, Value.slice uo on uc)) ∧ Hid (∀ b, b < n → D b = if b = j then (⟨((bops l0 j).take i).map (renOp (nameOf l)) ++ (bops l0 j).drop i, bfin l0 j⟩ : BlockD) else if b < j then renB (nameOf l) (⟨bops l0 b, bfin l0 b⟩ : BlockD) else (⟨bops l0 b, bfin l0 b⟩ : BlockD)))
        (fun iv _ => on - (intOf iv).toNat)
      case atStart => exact ⟨0, qv, D, h0.choose, by omega, rfl, HS.out, h0.choose_spec, hD0⟩
      case round =>
        clear HS h0 hD0 cq0 z4
        clear qv D
        obtain ⟨i, qv, D, B, hi, rfl, S, hB, hD⟩ := hrel
        obtain ⟨hbq, hBe⟩ := List.getElem?_eq_some_iff.1 hB.out
        have hsv : qv[j].2 = Value.slice uo on uc := by rw [hBe]
        have hops : qv[j].1.ops = ((bops l0 j).take i).map (renOp (nameOf l)) ++ (bops l0 j).drop i := by
          have h1 := (S.dat j hlt).1
          rw [(bdat_get qv hbq).1, hD.out j hlt, if_pos rfl] at h1
          exact h1
        have hfin : qv[j].1.fin = bfin l0 j := by
          have h1 := (S.dat j hlt).2
          rw [(bdat_get qv hbq).2, hD.out j hlt, if_pos rfl] at h1
          exact h1
        by_cases hia : i < on
        · have hil : i < (bops l0 j).length := by rw [← HON.out]; exact hia
          have hiq : i < qv[j].1.ops.length := by rw [hops]; simp; omega
          have hrow := S.ownQ.each _ (List.getElem_mem hbq)
          rw [hsv] at hrow
          obtain ⟨g, rfl, hgB, gx0, gx1, gx2, gx3, _⟩ := owns_ops_at hrow (j := i) hiq
          obtain ⟨X, hX⟩ : ∃ X, X = (bops l0 j).getD i oz := ⟨_, rfl⟩
          have hgo : opGood (l.length : Nat) 0 X = true := by
            have gb := GB.out
            simp only [blockGood, Bool.and_eq_true, decide_eq_true_eq, opsGood, List.all_eq_true] at gb
            rw [HLR.out, hX]
            refine gb.1.2 _ ?_
            simp [List.getD, hil]
          simp only [okind, oa, ob, oc] at gx0 gx1 gx2 gx3
          rw [hops, mid_get _ _ hil, ← hX] at gx0 gx1 gx2 gx3
          obtain ⟨Y, hY⟩ : ∃ Y, Y = renOp (nameOf l) X := ⟨_, rfl⟩
          obtain ⟨x0, x1, x2, x3⟩ := X
          dsimp only at gx0 gx1 gx2 gx3
          have q5 := fun P' => renamed_cps x0 x1 x2 x3 (.slice to R tc) l wr (HTO.out.keep S.below) hgo P'
          rw [← hY] at q5
          have HY : Hid (Y = renOp (nameOf l) ((bops l0 j).getD i oz)) := by show _ = _; rw [hY, hX]
          obtain ⟨y0, y1, y2, y3⟩ := Y
          dsimp only at q5
          have hgq : qv[j].2.ownBlock = some g := by rw [hsv]; rfl
          have hii : (0 : Int) ≤ (i : Int) := by omega
          have hin : (i : Int) < (on : Int) := by omega
          have HS := Lib.hid S
          have HOPS := Lib.hid hops
          have HSV := Lib.hid hsv
          clear S hrow hX hY hgo hops hsv hfin hBe
          go_wp2_with fail
          refine q5 _ ?_
          intro w5 b5
          have S5 := HS.out.keep b5
          have hrow5 := S5.ownQ.each _ (List.getElem_mem hbq)
          rw [HSV.out] at hrow5
          obtain ⟨g1, e1, _, dx0, dx1, dx2, dx3, dfx⟩ := owns_ops_at hrow5 (j := i) hiq
          simp only [Option.some.injEq, Addr.mk.injEq, and_true] at e1
          subst e1
          have SF := S5.op hlt hbq hgq hiq y0 y1 y2 y3
          have HBF : Hid ((qv.set j (⟨qv[j].1.ops.set i ⟨y0, y1, y2, y3⟩, qv[j].1.fin⟩, qv[j].2))[j]? = some (⟨qv[j].1.ops.set i ⟨y0, y1, y2, y3⟩, qv[j].1.fin⟩, Value.slice (some ⟨g, 0, none⟩) on uc)) := by
            show _ = _
            rw [List.getElem?_set_self hbq, HSV.out]
          have HDF : Hid (∀ b, b < n → (fun b => if b = j then (⟨(D j).ops.set i ⟨y0, y1, y2, y3⟩, (D j).fin⟩ : BlockD) else D b) b = if b = j then (⟨((bops l0 j).take (i + 1)).map (renOp (nameOf l)) ++ (bops l0 j).drop (i + 1), bfin l0 j⟩ : BlockD) else if b < j then renB (nameOf l) (⟨bops l0 b, bfin l0 b⟩ : BlockD) else (⟨bops l0 b, bfin l0 b⟩ : BlockD)) := by
            show ∀ b, b < n → _
            intro b hb
            show (if b = j then _ else D b) = _
            by_cases e : b = j
            · rw [if_pos e, if_pos e, hD.out j hlt, if_pos rfl, HY.out, mid_set _ _ hil]
            · rw [if_neg e, if_neg e, hD.out b hb, if_neg e]
          have f0 := dfx (i * 4)
          have f1 := dfx (i * 4 + 1)
          have f2 := dfx (i * 4 + 2)
          have f3 := dfx (i * 4 + 3)
          have HSF := Lib.hid SF
          have HW : Hid (set4 w5 g (i * 4) y0 y1 y2 y3 = ((((w5.setCell ⟨g, i * 4, none⟩ (.int .i64 y0)).setCell ⟨g, i * 4 + 1, none⟩ (.int .i64 y1)).setCell ⟨g, i * 4 + 2, none⟩ (.int .i64 y2)).setCell ⟨g, i * 4 + 3, none⟩ (.int .i64 y3))) := rfl
          clear q5 S5 SF hrow5 dfx HY hD HS HOPS HSV gx0 gx1 gx2 gx3 b5 hB
          go_wp2
          go_roundw
          case rel =>
            have hsf := HSF.out
            rw [HW.out] at hsf
            exact ⟨i + 1, _, _, _, by omega, by go_num, hsf, HBF, HDF⟩
          case measure => simp [intOf]; omega
        · have hion : i = on := by omega
          subst hion
          have hops2 : (D j).ops = (bops l0 j).map (renOp (nameOf l)) := by
            rw [hD.out j hlt, if_pos rfl]
            show ((bops l0 j).take i).map _ ++ (bops l0 j).drop i = _
            rw [HON.out]; simp
          have hfin2 : (D j).fin = bfin l0 j := by rw [hD.out j hlt, if_pos rfl]
          obtain ⟨qg', eqg, _, cq0, cq1, cq2, _, _, cqf⟩ := ownBlocks_at S.ownQ hbq
          simp only [Option.some.injEq, Addr.mk.injEq, and_true] at eqg
          subst eqg
          rw [hfin] at cq1 cq2
          obtain ⟨E, hE⟩ : ∃ E, E = bfin l0 j := ⟨_, rfl⟩
          rw [← hE] at cq1 cq2 hfin2
          have z4 := S.rowQ.cell (i := 4) rfl
          have gE : endGood (R : Int) l0.length E = true := by
            have gb := GB.out
            simp only [blockGood, Bool.and_eq_true, decide_eq_true_eq] at gb
            rw [hE]; exact gb.2
          obtain ⟨ek, er, ex, ey⟩ := E
          dsimp only at cq1 cq2
          by_cases hk1 : ek = 1
          · subst hk1
            have HD2 : Hid (∀ b, b < n → D b = if b < (j + 1) then renB (nameOf l) (⟨bops l0 b, bfin l0 b⟩ : BlockD) else (⟨bops l0 b, bfin l0 b⟩ : BlockD)) := by
              show ∀ b, b < n → _
              intro b hb
              by_cases e : b = j
              · subst e
                rw [if_pos (by omega)]
                show D b = ⟨_, renEnd _ (bfin l0 b)⟩
                rw [← hE, ← hops2]
                show D b = ⟨(D b).ops, ⟨1, er, ex, ey⟩⟩
                rw [← hfin2]
              · rw [hD.out b hb, if_neg e]
                by_cases h : b < j
                · rw [if_pos h, if_pos (by omega)]
                · rw [if_neg h, if_neg (by omega)]
            obtain ⟨W, hW⟩ : ∃ W, W = wr := ⟨_, rfl⟩
            subst hW
            have SW := S
            clear S hD hB hBe hops hfin hops2 hfin2 hE gE cqf cq2
            go_wp2
            have rX0 : Row (W.alloc (.cells #[.int .i64 j, .slice none 0 0] 81)) W.heap.size 81 [.int .i64 j, .slice none 0 0] := heap_alloc_new W _
            have ke0 : Keep (fun _ => False) W (W.alloc (.cells #[.int .i64 j, .slice none 0 0] 81)) := (Keep.refl _ _).alloc _
            have z0 : W.heap.size + 1 ≤ (W.alloc (.cells #[.int .i64 j, .slice none 0 0] 81)).heap.size := by simp
            have HRW := Lib.hid (HTO.out.keep SW.below)
            have HS := Lib.hid SW
            clear SW
            go_loopw [13] (fun iv wi => ∃ (m c : Nat) (sv : Value), m ≤ 8 ∧ iv = .int .i64 m ∧ Row wi W.heap.size 81 [.int .i64 j, sv] ∧ wi.ownsRow (W.heap.size + 1) 83 2 sv c (pairCells (psN l m)) ∧ Hid (c = (psN l m).length) ∧
                Keep (fun _ => False) W wi ∧ W.heap.size + 1 ≤ wi.heap.size)
              (fun iv _ => 8 - (intOf iv).toNat)
            case atStart => exact ⟨0, 0, _, by omega, rfl, rX0, World.ownsRow_nil _ _ _ _, rfl, ke0, z0⟩
            case round =>
              clear rX0 ke0 z0
              rename World => w3
              obtain ⟨m, c, sv, hm, rfl, rX, pown, hc, kei, hzi⟩ := hrel
              obtain ⟨so, sc, rfl⟩ := owns_slice pown
              by_cases hm8 : m < 8
              · have hm8i : (m : Int) < 8 := by omega
                have rX0 := rX
                have pown0 : w3.ownsRow (W.heap.size + 1) 83 2 (.slice so c sc) c (pairCells (psN l m ++ rowI l m 0)) := by simpa [rowI] using pown
                have hc0 : Hid (c = (psN l m ++ rowI l m 0).length) := by show _ = _; simpa [rowI] using hc.out
                have ke0 := kei
                have z0 := hzi
                clear rX pown hc kei hzi
                go_wp2
                go_loopw [14] (fun iv wi => ∃ (i c : Nat) (sv : Value), i ≤ R ∧ iv = .int .i64 i ∧ Row wi W.heap.size 81 [.int .i64 j, sv] ∧ wi.ownsRow (W.heap.size + 1) 83 2 sv c (pairCells (psN l m ++ rowI l m i)) ∧ Hid (c = (psN l m ++ rowI l m i).length) ∧
                    Keep (fun _ => False) W wi ∧ W.heap.size + 1 ≤ wi.heap.size)
                  (fun iv _ => R - (intOf iv).toNat)
                case atStart => exact ⟨0, c, _, by omega, rfl, rX0, pown0, hc0, ke0, z0⟩
                case round =>
                  clear rX0 ke0 z0 pown0 hc0
                  rename World => w4
                  obtain ⟨i, c, sv, hi, rfl, rX, pown, hc, kei, hzi⟩ := hrel
                  obtain ⟨so, sc, rfl⟩ := owns_slice pown
                  by_cases hia : i < R
                  · have hiai : (i : Int) < (R : Int) := by omega
                    have hii : (0 : Int) ≤ (i : Int) := by omega
                    have hil : i < l.length := by rw [HLR.out]; exact hia
                    obtain ⟨to', tc', e0, _, hcell⟩ := HRW.out.keep (kei.toBelow (Nat.le_refl _) (fun g hg => hg.elim))
                    simp only [Value.slice.injEq] at e0
                    obtain ⟨rfl, e0, rfl⟩ := e0
                    obtain ⟨tb, toff, hto', hti⟩ := hcell i hil
                    clear hcell e0 hil
                    first | subst hto' | (simp only [Option.some.injEq, Addr.mk.injEq, and_true] at hto'; obtain ⟨rfl, rfl⟩ := hto')
                    have hcl : c ≤ 9 := by
                      have h1 := psN_len HNM.out.one m
                      have h2 := rowI_len HNM.out.one (m : Int) i (by rw [HLR.out]; omega)
                      have h3 := hc.out
                      rw [List.length_append] at h3
                      omega
                    by_cases he : l.getD i 0 = (m : Int)
                    · rw [he] at hti
                      have HPS : Hid (psN l m ++ rowI l m (i + 1) = psN l m ++ rowI l m i ++ [⟨i, m⟩]) := by show _ = _; simp only [rowI, if_pos he, List.append_assoc]
                      have x1 := rX.cell (i := 1) rfl
                      clear he
                      go_wp2_with (at_builtin; refine wpList_append_own _ rfl _ _ 79 rfl (W.heap.size + 1) 83 j0 (.agg #[.int .i64 0, .int .i64 0]) 2 16 Tryz.underlying79 ji jz0 jz1 jz2 rfl (by decide) _ _ _ rfl (pown.alloc _) ⟨w4.heap.size, 0, none⟩ 1 1 [.int .i64 i, .int .i64 m] rfl rfl ?c1 ?c2 ?c3 ?c4 ?c5 ?_)
                      try (case c1 => simpa using two_new w4 _ _ _)
                      try (case c2 => exact pairs_one _ _)
                      try (case c2 => exact ⟨rfl, rfl⟩)
                      try (case c2 => rfl)
                      case c3 => unfold maxLen; omega
                      case c4 => omega
                      case c5 => first | omega | (simp; omega)
                      intro v' w5 hown5 hgrow5 _
                      rw [← pairCells_snoc, ← HPS.out] at hown5
                      have hb5 := ((Below.refl (W.heap.size + 1) w4).alloc hzi (.cells #[.int .i64 i, .int .i64 m] 83)).grown hgrow5 (by simp; omega) (fun g hg => (pown.lt g hg).1)
                      have rX5 := rX.below hb5 (by omega)
                      have ke5 := kei.below hb5 (by omega)
                      have hz5 := hb5.size
                      have y1 := rX5.cell (i := 1) rfl
                      have yf := rX5.frozen 1
                      obtain ⟨bo', bc', hv'⟩ := owns_slice hown5
                      subst hv'
                      have rX6 := rX5.set 1 (.slice bo' (c + 1) bc')
                      have ke6 := ke5.setCell (p := ⟨W.heap.size, 1, none⟩) (.inr (Nat.le_refl _)) (.slice bo' (c + 1) bc')
                      have own6 := ownsRow_setCell_below hown5 (a := ⟨W.heap.size, 1, none⟩) (by show W.heap.size < W.heap.size + 1; omega) (.slice bo' (c + 1) bc')
                      have hc6 : Hid (c + 1 = (psN l m ++ rowI l m (i + 1)).length) := by show _ = _; rw [HPS.out, hc.out, List.length_append (bs := [_])]; rfl
                      clear rX5 ke5 hown5 hgrow5 hb5 rX pown kei HPS hc x1 hti
                      go_wp2
                      go_roundw
                      case rel => exact ⟨i + 1, _, _, by omega, by go_num, rX6, own6, hc6, ke6, by simp; omega⟩
                      case measure => simp [intOf]; omega
                    · have HPS : Hid (psN l m ++ rowI l m (i + 1) = psN l m ++ rowI l m i) := by show _ = _; simp only [rowI, if_neg he, List.append_nil]
                      obtain ⟨x, hx⟩ : ∃ x, x = l.getD i 0 := ⟨_, rfl⟩
                      rw [← hx] at hti he
                      clear hx
                      go_wp2
                      go_roundw
                      case rel => exact ⟨i + 1, c, _, by omega, by go_num, rX, by rw [HPS.out]; exact pown, by rw [HPS.out]; exact hc, kei, hzi⟩
                      case measure => simp [intOf]; omega
                  · have hiR : i = R := by omega
                    subst hiR
                    have HPS : Hid (psN l (m + 1) = psN l m ++ rowI l m i) := by show _ = _; rw [← HLR.out]; rfl
                    have nia : ¬ ((i : Int) < (i : Int)) := by omega
                    go_wp2
                    go_roundw
                    case rel => exact ⟨m + 1, c, _, by omega, by go_num, rX, by rw [HPS.out]; exact pown, by rw [HPS.out]; exact hc, kei, hzi⟩
                    case measure => simp [intOf]; omega
              · have hm8 : m = 8 := by omega
                subst hm8
                have SW := HS.out.keep (kei.toBelow (Nat.le_refl _) (fun g hg => hg.elim))
                have hQW : Qb + 2 ≤ W.heap.size := HS.out.size
                have pown1 := owns_base pown (show Qb + 2 ≤ W.heap.size + 1 by omega)
                obtain ⟨hho, hhc, rfl⟩ := owns_slice SW.ownH.row
                have hfree : ∀ y ∈ hv, ∀ g, y.2.ownBlock = some g → (Value.slice so c sc).ownBlock ≠ some g := by
                  intro y hy g hg e
                  have q1 := ((HS.out.ownH.each y hy).lt g hg).2
                  have q2 := (pown.lt g e).1
                  omega
                have x0' := rX.cell (i := 0) rfl
                have x1' := rX.cell (i := 1) rfl
                have h0' := SW.rowH.cell (i := 0) rfl
                have hhl := SW.hlen
                have hhl6 : hv.length ≤ 6 := by rw [hhl]; omega
                have hz1 : Qb + 2 ≤ w3.heap.size := SW.size
                have ownr := SW.ownH.row
                rw [hc.out] at pown1
                rw [← hc.out] at pown1
                have HPO := Lib.hid pown1
                have HS1 := Lib.hid SW
                have HHL := Lib.hid hhl
                clear SW hhl pown1 rX kei pown HS
                go_wp2_with (at_builtin; refine wpList_append_own _ rfl _ _ 68 rfl (Qb + 2) 81 i0 (.agg #[.int .i64 0, .slice none 0 0]) 2 32 Tryz.underlying68 ii iz0 iz1 iz2 rfl (by decide) _ _ _ rfl (ownr.alloc _) ⟨w3.heap.size, 0, none⟩ 1 1 [.int .i64 j, .slice so c sc] ?k0 rfl ?k1 ?k2 ?k3 ?k4 ?k5 ?_)
                case k3 => unfold maxLen; omega
                case k4 => omega
                try (case k0 => first | rfl | simp)
                try (case k1 => simpa using two_new w3 _ _ _)
                try (case k2 => first | exact ⟨rfl, rfl⟩ | (intro v hv; simp only [List.mem_cons, List.not_mem_nil, or_false] at hv; rcases hv with rfl | rfl <;> rfl))
                case k5 => first | omega | (simp; omega)
                intro v7 w7 hown7 hgrow7 _
                have S7 := HS1.out.ping (by rw [← hc.out]; exact HPO.out) hfree hgrow7 hown7
                obtain ⟨ho7, hc7, hv7⟩ := owns_slice hown7
                have hb7 : Below (Qb + 2) w3 w7 := ((Below.refl (Qb + 2) w3).alloc hz1 _).grown hgrow7 (by simp; omega) (fun g hg => (ownr.lt g hg).1)
                have rH6 := HS1.out.rowH.below hb7 (by omega)
                have y0 := rH6.cell (i := 0) rfl
                have yf := rH6.frozen 0
                subst hv7
                have HS7 := Lib.hid S7
                clear S7 hown7 hgrow7 hb7 rH6 HS1 hfree ownr x0' x1' h0' HPO hc
                go_wp2
                go_roundw
                case rel => exact ⟨j + 1, _, _, _, _, by omega, by go_num, HS7.out, HD2⟩
                case measure => simp [intOf]; omega
          · have her : 0 ≤ er ∧ er < (R : Int) := by
              unfold endGood at gE
              rw [if_neg (by exact hk1)] at gE
              split at gE
              · simp only [Bool.and_eq_true, below, decide_eq_true_eq] at gE
                omega
              · split at gE
                · simp only [Bool.and_eq_true, below, decide_eq_true_eq] at gE
                  omega
                · cases gE
            obtain ⟨er, rfl⟩ : ∃ r : Nat, er = (r : Int) := ⟨er.toNat, by omega⟩
            have hel : er < l.length := by rw [HLR.out]; omega
            have bd : Below wr.heap.size wr wr.drew := (Below.refl _ _).drew
            have Sd := S.keep bd
            obtain ⟨qg', eqg, _, ce0, ce1, ce2, _, _, cef⟩ := ownBlocks_at Sd.ownQ hbq
            simp only [Option.some.injEq, Addr.mk.injEq, and_true] at eqg
            subst eqg
            rw [hfin, ← hE] at ce2
            dsimp only at ce2
            have y4 := Sd.rowQ.cell (i := 4) rfl
            obtain ⟨to', tc', e0, _, hcell⟩ := HTO.out.keep Sd.below
            simp only [Value.slice.injEq] at e0
            obtain ⟨rfl, e0, rfl⟩ := e0
            obtain ⟨tb, toff, rfl, hti⟩ := hcell er hel
            clear hcell e0 hel
            have SW := S.endR hlt hbq (l.getD er 0)
            have HD2 : Hid (∀ b, b < n → (fun b => if b = j then (⟨(D j).ops, ⟨(D j).fin.kind, l.getD er 0, (D j).fin.x, (D j).fin.y⟩⟩ : BlockD) else D b) b = if b < (j + 1) then renB (nameOf l) (⟨bops l0 b, bfin l0 b⟩ : BlockD) else (⟨bops l0 b, bfin l0 b⟩ : BlockD)) := by
              show ∀ b, b < n → _
              intro b hb
              show (if b = j then _ else D b) = _
              by_cases e : b = j
              · subst e
                rw [if_pos rfl, if_pos (by omega), hops2, hfin2]
                show _ = BlockD.mk _ (renEnd _ (bfin l0 b))
                rw [← hE]
                show _ = BlockD.mk _ (renEnd _ ⟨ek, er, ex, ey⟩)
                unfold renEnd
                rw [if_neg hk1]
                rfl
              · rw [if_neg e, hD.out b hb, if_neg e]
                by_cases h : b < j
                · rw [if_pos h, if_pos (by omega)]
                · rw [if_neg h, if_neg (by omega)]
            obtain ⟨x, hx⟩ : ∃ x, x = l.getD er 0 := ⟨_, rfl⟩
            rw [← hx] at hti SW HD2
            obtain ⟨W, hW⟩ : ∃ W, W = wr.setCell ⟨qg, j * 5 + 1 + 1, none⟩ (.int .i64 x) := ⟨_, rfl⟩
            replace SW : RnSt wc (wr.setCell ⟨qg, j * 5 + 1 + 1, none⟩ (.int .i64 x)) Qb (A : Int) a2 l qg n qc j _ _ hval hv := SW
            rw [← hW] at SW
            have HW := Lib.hid hW
            have HSZ : Hid (wr.heap.size = W.heap.size) := by show _ = _; rw [hW]; simp
            have heri : (0 : Int) ≤ (er : Int) := by omega
            have herj : (er : Int) < (R : Int) := by omega
            have cef2 := cef (j * 5 + 2)
            clear S Sd hD hB hBe hops hfin hops2 hfin2 hE gE cqf cq2 cef hx hW her
            go_wp2
            refine wp_tail 16 (by kernel_rfl) (by kernel_rfl) ?_
            simp only [List.take_succ_cons, List.take_zero, List.drop_succ_cons, List.drop_zero]
            repeat still_step
            refine wpStill_nil ?_
            go_wp2
            rw [← HW.out, HSZ.out]
            clear HSZ HW ce0 ce1 ce2 y4 hti cef2 cq0 cq1 z4
            have rX0 : Row (W.alloc (.cells #[.int .i64 j, .slice none 0 0] 81)).drew W.heap.size 81 [.int .i64 j, .slice none 0 0] := Row.keep (show Row (W.alloc (.cells #[.int .i64 j, .slice none 0 0] 81)) W.heap.size 81 [.int .i64 j, .slice none 0 0] from heap_alloc_new W _) (Below.refl _ _).drew
            have ke0 : Keep (fun _ => False) W (W.alloc (.cells #[.int .i64 j, .slice none 0 0] 81)).drew := ((Keep.refl _ W).alloc _).below (B := W.heap.size) (Below.refl _ _).drew (Nat.le_refl _)
            have z0 : W.heap.size + 1 ≤ (W.alloc (.cells #[.int .i64 j, .slice none 0 0] 81)).drew.heap.size := by simp
            have HRW := Lib.hid (HTO.out.keep SW.below)
            have HS := Lib.hid SW
            clear SW
            go_loopw [13] (fun iv wi => ∃ (m c : Nat) (sv : Value), m ≤ 8 ∧ iv = .int .i64 m ∧ Row wi W.heap.size 81 [.int .i64 j, sv] ∧ wi.ownsRow (W.heap.size + 1) 83 2 sv c (pairCells (psN l m)) ∧ Hid (c = (psN l m).length) ∧
                Keep (fun _ => False) W wi ∧ W.heap.size + 1 ≤ wi.heap.size)
              (fun iv _ => 8 - (intOf iv).toNat)
            case atStart => exact ⟨0, 0, _, by omega, rfl, rX0, World.ownsRow_nil _ _ _ _, rfl, ke0, z0⟩
            case round =>
              clear rX0 ke0 z0
              rename World => w3
              obtain ⟨m, c, sv, hm, rfl, rX, pown, hc, kei, hzi⟩ := hrel
              obtain ⟨so, sc, rfl⟩ := owns_slice pown
              by_cases hm8 : m < 8
              · have hm8i : (m : Int) < 8 := by omega
                have rX0 := rX
                have pown0 : w3.ownsRow (W.heap.size + 1) 83 2 (.slice so c sc) c (pairCells (psN l m ++ rowI l m 0)) := by simpa [rowI] using pown
                have hc0 : Hid (c = (psN l m ++ rowI l m 0).length) := by show _ = _; simpa [rowI] using hc.out
                have ke0 := kei
                have z0 := hzi
                clear rX pown hc kei hzi
                go_wp2
                go_loopw [14] (fun iv wi => ∃ (i c : Nat) (sv : Value), i ≤ R ∧ iv = .int .i64 i ∧ Row wi W.heap.size 81 [.int .i64 j, sv] ∧ wi.ownsRow (W.heap.size + 1) 83 2 sv c (pairCells (psN l m ++ rowI l m i)) ∧ Hid (c = (psN l m ++ rowI l m i).length) ∧
                    Keep (fun _ => False) W wi ∧ W.heap.size + 1 ≤ wi.heap.size)
                  (fun iv _ => R - (intOf iv).toNat)
                case atStart => exact ⟨0, c, _, by omega, rfl, rX0, pown0, hc0, ke0, z0⟩
                case round =>
                  clear rX0 ke0 z0 pown0 hc0
                  rename World => w4
                  obtain ⟨i, c, sv, hi, rfl, rX, pown, hc, kei, hzi⟩ := hrel
                  obtain ⟨so, sc, rfl⟩ := owns_slice pown
                  by_cases hia : i < R
                  · have hiai : (i : Int) < (R : Int) := by omega
                    have hii : (0 : Int) ≤ (i : Int) := by omega
                    have hil : i < l.length := by rw [HLR.out]; exact hia
                    obtain ⟨to', tc', e0, _, hcell⟩ := HRW.out.keep (kei.toBelow (Nat.le_refl _) (fun g hg => hg.elim))
                    simp only [Value.slice.injEq] at e0
                    obtain ⟨rfl, e0, rfl⟩ := e0
                    obtain ⟨tb, toff, hto', hti⟩ := hcell i hil
                    clear hcell e0 hil
                    first | subst hto' | (simp only [Option.some.injEq, Addr.mk.injEq, and_true] at hto'; obtain ⟨rfl, rfl⟩ := hto')
                    have hcl : c ≤ 9 := by
                      have h1 := psN_len HNM.out.one m
                      have h2 := rowI_len HNM.out.one (m : Int) i (by rw [HLR.out]; omega)
                      have h3 := hc.out
                      rw [List.length_append] at h3
                      omega
                    by_cases he : l.getD i 0 = (m : Int)
                    · rw [he] at hti
                      have HPS : Hid (psN l m ++ rowI l m (i + 1) = psN l m ++ rowI l m i ++ [⟨i, m⟩]) := by show _ = _; simp only [rowI, if_pos he, List.append_assoc]
                      have x1 := rX.cell (i := 1) rfl
                      clear he
                      go_wp2_with (at_builtin; refine wpList_append_own _ rfl _ _ 79 rfl (W.heap.size + 1) 83 j0 (.agg #[.int .i64 0, .int .i64 0]) 2 16 Tryz.underlying79 ji jz0 jz1 jz2 rfl (by decide) _ _ _ rfl (pown.alloc _) ⟨w4.heap.size, 0, none⟩ 1 1 [.int .i64 i, .int .i64 m] rfl rfl ?c1 ?c2 ?c3 ?c4 ?c5 ?_)
                      try (case c1 => simpa using two_new w4 _ _ _)
                      try (case c2 => exact pairs_one _ _)
                      try (case c2 => exact ⟨rfl, rfl⟩)
                      try (case c2 => rfl)
                      case c3 => unfold maxLen; omega
                      case c4 => omega
                      case c5 => first | omega | (simp; omega)
                      intro v' w5 hown5 hgrow5 _
                      rw [← pairCells_snoc, ← HPS.out] at hown5
                      have hb5 := ((Below.refl (W.heap.size + 1) w4).alloc hzi (.cells #[.int .i64 i, .int .i64 m] 83)).grown hgrow5 (by simp; omega) (fun g hg => (pown.lt g hg).1)
                      have rX5 := rX.below hb5 (by omega)
                      have ke5 := kei.below hb5 (by omega)
                      have hz5 := hb5.size
                      have y1 := rX5.cell (i := 1) rfl
                      have yf := rX5.frozen 1
                      obtain ⟨bo', bc', hv'⟩ := owns_slice hown5
                      subst hv'
                      have rX6 := rX5.set 1 (.slice bo' (c + 1) bc')
                      have ke6 := ke5.setCell (p := ⟨W.heap.size, 1, none⟩) (.inr (Nat.le_refl _)) (.slice bo' (c + 1) bc')
                      have own6 := ownsRow_setCell_below hown5 (a := ⟨W.heap.size, 1, none⟩) (by show W.heap.size < W.heap.size + 1; omega) (.slice bo' (c + 1) bc')
                      have hc6 : Hid (c + 1 = (psN l m ++ rowI l m (i + 1)).length) := by show _ = _; rw [HPS.out, hc.out, List.length_append (bs := [_])]; rfl
                      clear rX5 ke5 hown5 hgrow5 hb5 rX pown kei HPS hc x1 hti
                      go_wp2
                      go_roundw
                      case rel => exact ⟨i + 1, _, _, by omega, by go_num, rX6, own6, hc6, ke6, by simp; omega⟩
                      case measure => simp [intOf]; omega
                    · have HPS : Hid (psN l m ++ rowI l m (i + 1) = psN l m ++ rowI l m i) := by show _ = _; simp only [rowI, if_neg he, List.append_nil]
                      obtain ⟨x, hx⟩ : ∃ x, x = l.getD i 0 := ⟨_, rfl⟩
                      rw [← hx] at hti he
                      clear hx
                      go_wp2
                      go_roundw
                      case rel => exact ⟨i + 1, c, _, by omega, by go_num, rX, by rw [HPS.out]; exact pown, by rw [HPS.out]; exact hc, kei, hzi⟩
                      case measure => simp [intOf]; omega
                  · have hiR : i = R := by omega
                    subst hiR
                    have HPS : Hid (psN l (m + 1) = psN l m ++ rowI l m i) := by show _ = _; rw [← HLR.out]; rfl
                    have nia : ¬ ((i : Int) < (i : Int)) := by omega
                    go_wp2
                    go_roundw
                    case rel => exact ⟨m + 1, c, _, by omega, by go_num, rX, by rw [HPS.out]; exact pown, by rw [HPS.out]; exact hc, kei, hzi⟩
                    case measure => simp [intOf]; omega
              · have hm8 : m = 8 := by omega
                subst hm8
                have SW := HS.out.keep (kei.toBelow (Nat.le_refl _) (fun g hg => hg.elim))
                have hQW : Qb + 2 ≤ W.heap.size := HS.out.size
                have pown1 := owns_base pown (show Qb + 2 ≤ W.heap.size + 1 by omega)
                obtain ⟨hho, hhc, rfl⟩ := owns_slice SW.ownH.row
                have hfree : ∀ y ∈ hv, ∀ g, y.2.ownBlock = some g → (Value.slice so c sc).ownBlock ≠ some g := by
                  intro y hy g hg e
                  have q1 := ((HS.out.ownH.each y hy).lt g hg).2
                  have q2 := (pown.lt g e).1
                  omega
                have x0' := rX.cell (i := 0) rfl
                have x1' := rX.cell (i := 1) rfl
                have h0' := SW.rowH.cell (i := 0) rfl
                have hhl := SW.hlen
                have hhl6 : hv.length ≤ 6 := by rw [hhl]; omega
                have hz1 : Qb + 2 ≤ w3.heap.size := SW.size
                have ownr := SW.ownH.row
                rw [hc.out] at pown1
                rw [← hc.out] at pown1
                have HPO := Lib.hid pown1
                have HS1 := Lib.hid SW
                have HHL := Lib.hid hhl
                clear SW hhl pown1 rX kei pown HS
                go_wp2_with (at_builtin; refine wpList_append_own _ rfl _ _ 68 rfl (Qb + 2) 81 i0 (.agg #[.int .i64 0, .slice none 0 0]) 2 32 Tryz.underlying68 ii iz0 iz1 iz2 rfl (by decide) _ _ _ rfl (ownr.alloc _) ⟨w3.heap.size, 0, none⟩ 1 1 [.int .i64 j, .slice so c sc] ?k0 rfl ?k1 ?k2 ?k3 ?k4 ?k5 ?_)
                case k3 => unfold maxLen; omega
                case k4 => omega
                try (case k0 => first | rfl | simp)
                try (case k1 => simpa using two_new w3 _ _ _)
                try (case k2 => first | exact ⟨rfl, rfl⟩ | (intro v hv; simp only [List.mem_cons, List.not_mem_nil, or_false] at hv; rcases hv with rfl | rfl <;> rfl))
                case k5 => first | omega | (simp; omega)
                intro v7 w7 hown7 hgrow7 _
                have S7 := HS1.out.ping (by rw [← hc.out]; exact HPO.out) hfree hgrow7 hown7
                obtain ⟨ho7, hc7, hv7⟩ := owns_slice hown7
                have hb7 : Below (Qb + 2) w3 w7 := ((Below.refl (Qb + 2) w3).alloc hz1 _).grown hgrow7 (by simp; omega) (fun g hg => (ownr.lt g hg).1)
                have rH6 := HS1.out.rowH.below hb7 (by omega)
                have y0 := rH6.cell (i := 0) rfl
                have yf := rH6.frozen 0
                subst hv7
                have HS7 := Lib.hid S7
                clear S7 hown7 hgrow7 hb7 rH6 HS1 hfree ownr x0' x1' h0' HPO hc
                go_wp2
                go_roundw
                case rel => exact ⟨j + 1, _, _, _, _, by omega, by go_num, HS7.out, HD2⟩
                case measure => simp [intOf]; omega
    · have hjn : j = n := by omega
      subst hjn
      have rP := HRP.out.keep S.below
      have rdp := HRD.out.keep S.below
      have rdq := OwnBlocks.rd S.ownQ
      have rdh := OwnHint.rd S.ownH
      obtain ⟨hho, hhc, rfl⟩ := owns_slice S.ownH.row
      rw [S.hdt] at rdh
      have bw : Below w.heap.size w wo := HBW.out.trans (S.below.mono HBW.out.size)
      have h8 : l.length ≤ 8 := by rw [HLR.out]; omega
      have HT := rn_twin (A := A) (a2 := a2) (l := l) (l0 := l0) (m := bdat qv) HNM.out h8 (by rw [HLR.out]; exact HG.out) (fun b hb => by have := HSP.out b hb; omega) (by rw [bdat_length, S.len]; exact HLN.out) (fun b hb => by
        have hb' : b < j := by rw [HLN.out]; exact hb
        obtain ⟨d1, d2⟩ := S.dat b hb'
        rw [hD.out b hb', if_pos hb'] at d1 d2
        exact ⟨d1, d2⟩)
      rw [HLR.out, ← HLN.out] at HT
      have HGH : goodHint (rnPings l j) = true := rn_hint HNM.out h8 hlen6
      have q7 := fun P' => accepted_cps ⟨A, R, a2, 0, l0⟩ ⟨A, 8, a2, 0, bdat qv⟩ _ (.slice bo j bc) (.slice (some ⟨qg, 0, none⟩) j qc) (.slice hho hv.length hhc) wo rdp rdq rdh HG.out HT.1 HGH (HTB.out.keep bw) HT.2 P'
      have u0 := rP.cell (i := 0) rfl
      have v0 := S.rowQ.cell (i := 0) rfl
      have u1 := rP.cell (i := 1) rfl
      have v1 := S.rowQ.cell (i := 1) rfl
      have u2 := rP.cell (i := 2) rfl
      have v2 := S.rowQ.cell (i := 2) rfl
      have u3 := rP.cell (i := 3) rfl
      have v3 := S.rowQ.cell (i := 3) rfl
      have u4 := rP.cell (i := 4) rfl
      have v4 := S.rowQ.cell (i := 4) rfl
      have hh0 := S.rowH.cell (i := 0) rfl
      have HB := Lib.hid bw
      clear S rP rdp rdq rdh bw HT HGH hD
      go_wp2_with fail
      refine q7 _ ?_
      intro w8 hb8
      have HF := Lib.hid (HP.out w8 (HB.out.trans (hb8.mono HB.out.size)))
      clear q7 hb8 HB HP hh0 u0 v0 u1 v1 u2 v2 u3 v3 u4 v4
      go_wp2
      exact HF.out

end Go.Proofs.YtblhmeidbjigaaaGreatDoor
